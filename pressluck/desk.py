"""A desk: told rows, it answers texts about a game and a play of it."""

from pressluck.best import best
from pressluck.ends import ring
from pressluck.errors import NoGame, NoRow
from pressluck.games import read_game
from pressluck.judging import judged
from pressluck.plays import Play, value_of
from pressluck.rules import read_rule
from pressluck.shares import plus, show_share
from pressluck.spread import spread

WORDS = ("back", "play", "points", "worth", "pick", "even", "ring")


def read_text_row(head, text):
    if head == "game":
        return ("game", text)
    if head == "rule 1":
        return ("rule", 1, text)
    if head == "rule 2":
        return ("rule", 2, text)
    raise NoRow("no such row has a text behind it")


def read_plain_row(words):
    if len(words) == 1 and words[0] in WORDS:
        return (words[0],)
    if len(words) == 2 and words[0] == "say" and words[1] != "":
        return ("say", words[1])
    if len(words) == 2 and words[0] == "throw" and value_of(words[1]) is not None:
        return ("throw", value_of(words[1]))
    raise NoRow("there is no such row")


def read_row(row):
    if not isinstance(row, str):
        raise NoRow("a row is a text")
    pieces = row.partition("\n")
    if pieces[1] == "\n":
        return read_text_row(pieces[0], pieces[2])
    return read_plain_row(row.split(" "))


def show_state(state):
    if len(state[1]) == 0:
        return state[0]
    return state[0] + ":" + ",".join([str(number) for number in state[1]])


def show_ring(told):
    left = ring(told[0])
    if len(left) == 0:
        return "none"
    return " ".join([show_state(told[1][place]) for place in left])


class Desk:
    def __init__(self):
        self.game = None
        self.play = None
        # What the game is spread into, and what fits it: kept as soon as it is asked for, as it takes long.
        self.spreading = None
        self.fitting = None

    def tell(self, row):
        told = read_row(row)
        if told[0] == "game":
            return self.begin(told[1])
        if self.game is None:
            raise NoGame("there is no game")
        if told[0] == "rule":
            return self.judge(told[1], told[2])
        if told[0] in ("say", "throw", "back"):
            return self.step(told)
        if told[0] == "play":
            return self.play.shown()
        if told[0] == "points":
            return show_share(self.play.points())
        if told[0] == "ring":
            return show_ring(self.all_states())
        return self.weigh(told[0])

    def begin(self, text):
        self.game = read_game(text)
        self.play = Play(self.game)
        self.spreading = None
        self.fitting = None
        return "ok"

    def judge(self, who, text):
        verdict = judged(self.game, read_rule(text), who)
        return " ".join([verdict[0]] + [show_share(one) for one in verdict[1:3]])

    def step(self, told):
        if told[0] == "say":
            self.play.say(told[1])
        elif told[0] == "throw":
            self.play.throw(told[1])
        else:
            self.play.back()
        return "ok"

    def all_states(self):
        if self.spreading is None:
            self.spreading = spread(self.game)
        return self.spreading

    def best_worths(self):
        if self.fitting is None:
            self.fitting = best(self.all_states()[0])
        return self.fitting

    def weigh(self, word):
        fitting = self.best_worths()
        told = self.all_states()
        number = told[1].index(self.play.stands())
        kind = told[0][number][0]
        if word == "worth":
            return show_share(fitting[0][number])
        if word == "even":
            return show_share(plus(self.play.points(), (0, 1) if kind == "end" else fitting[0][number]))
        return told[2][number][fitting[1][number]] if kind == "pick" else "none"
