"""Plays of a game, step by step, and their texts."""

from pressluck.errors import NoPlay, NoStep, TooMany
from pressluck.shares import is_whole, plus, whole_in
from pressluck.spread import Course

MOST_STEPS = 200
MOST_VALUE = 999


class Play:
    def __init__(self, game):
        self.course = Course(game)
        self.state = self.course.start()
        self.paid = (0, 1)
        # Of each step its text, and the state and what was paid ahead of it.
        self.trail = []

    def stands(self):
        return (self.state[0], list(self.state[1]))

    def points(self):
        if self.course.what_at(self.state)[0] in ("throw", "pick"):
            return self.paid
        return plus(self.paid, self.course.end_worth(self.state))

    def open_ways(self):
        if self.course.what_at(self.state)[0] == "throw":
            return [value for value, part in self.course.table_at(self.state)]
        return self.course.words_at(self.state)

    def go(self, step, state, pay):
        if len(self.trail) == MOST_STEPS:
            raise TooMany("the play has too many steps")
        self.trail.append((step, self.state, self.paid))
        self.state = state
        self.paid = plus(self.paid, pay)

    def say(self, word):
        rows = [row for row in self.course.open_rows(self.state) if row[0] == word]
        if len(rows) == 0:
            raise NoStep("there is no open way of this word")
        self.go(word, self.course.by_row(self.state, rows[0], 0), (0, 1))

    def throw(self, value):
        what = self.course.what_at(self.state)
        # A truth would be found among the values too.
        if what[0] != "throw" or not is_whole(value) or value not in self.open_ways():
            raise NoStep("there is no throw of this value")
        self.go(str(value), self.course.by_value(self.state, value), what[2])

    def back(self):
        if len(self.trail) == 0:
            raise NoStep("there is no step to be taken back")
        last = self.trail.pop()
        self.state = last[1]
        self.paid = last[2]

    def shown(self):
        return " ".join([step[0] for step in self.trail])


def value_of(word):
    return whole_in(word, 0, MOST_VALUE)


def take_step(play, word):
    value = value_of(word)
    try:
        if value is None:
            play.say(word)
        else:
            play.throw(value)
    except (NoStep, TooMany) as refusal:
        raise NoPlay("a step is refused") from refusal


def read_play(game, text):
    if not isinstance(text, str):
        raise NoPlay("a play is read from a text alone")
    play = Play(game)
    words = text.split(" ") if text != "" else []
    for word in words:
        take_step(play, word)
    return play
