"""Games spread into boards, a place for each state that can come."""

from pressluck.errors import NoWay, TooMany
from pressluck.pools import pool_table
from pressluck.tables import bottom_of, weighed

MOST_STATES = 120


def own_rows(rows):
    return [(row[0], row[1], list(row[2]), row[3]) for row in rows]


def own_what(what):
    if what[0] == "throw":
        return ("throw", list(what[1]), what[2], own_rows(what[3]))
    if what[0] == "pick":
        return ("pick", what[1], own_rows(what[2]))
    return what


# How a game goes from state to state. It holds copies alone: so a change of the game later does not reach it.
class Course:
    def __init__(self, game):
        self.spots = {}
        self.mosts = []
        for spot, count in enumerate(game[0]):
            self.spots[count[0]] = spot
            self.mosts.append(count[1])
        self.first = game[1][0][0]
        self.whats = {}
        for name, what in game[1]:
            self.whats[name] = own_what(what)
        self.tables = {}

    def put(self, counts, spot, number):
        counts[spot] = min(number, self.mosts[spot])

    def do(self, counts, deed, value):
        spot = self.spots[deed[1]]
        if deed[0] == "set":
            self.put(counts, spot, deed[2])
        elif deed[0] == "plus":
            self.put(counts, spot, counts[spot] + deed[2])
        elif deed[0] == "face":
            self.put(counts, spot, counts[spot] + value)
        else:
            other = self.spots[deed[2]]
            self.put(counts, other, counts[other] + counts[spot])
            counts[spot] = 0

    def asked(self, name, counts):
        what = self.whats[name]
        while what[0] == "ask":
            name = what[3] if counts[self.spots[what[1]]] >= what[2] else what[4]
            what = self.whats[name]
        return (name, counts)

    def start(self):
        return self.asked(self.first, [0] * len(self.mosts))

    def what_at(self, state):
        return self.whats[state[0]]

    def by_row(self, state, row, value):
        counts = list(state[1])
        for deed in row[2]:
            self.do(counts, deed, value)
        return self.asked(row[3], counts)

    def by_value(self, state, value):
        rows = [row for row in self.what_at(state)[3] if row[0] <= value <= row[1]]
        return self.by_row(state, rows[0], value)

    # Kept, as one place of a game comes in many states.
    def table_at(self, state):
        if state[0] not in self.tables:
            self.tables[state[0]] = pool_table(self.what_at(state)[1])
        return self.tables[state[0]]

    def holds(self, when, counts):
        if when is None:
            return True
        if when[0] not in self.spots:
            return False
        number = counts[self.spots[when[0]]]
        return number >= when[2] if when[1] == "from" else number < when[2]

    def open_rows(self, state):
        what = self.what_at(state)
        if what[0] != "pick":
            return []
        return [row for row in what[2] if self.holds(row[1], state[1])]

    def words_at(self, state):
        return [row[0] for row in self.open_rows(state)]

    def end_worth(self, state):
        what = self.what_at(state)
        return what[1] if what[0] == "end" else (state[1][self.spots[what[1]]], 1)


# Numbers the states in the order in which they are found.
class Finder:
    def __init__(self):
        self.states = []
        self.numbers = {}

    def number_of(self, state):
        key = (state[0], tuple(state[1]))
        if key not in self.numbers:
            if len(self.states) == MOST_STATES:
                raise TooMany("the game has too many states")
            self.numbers[key] = len(self.states)
            self.states.append(state)
        return self.numbers[key]


def throw_ways(course, finder, state):
    table = course.table_at(state)
    ways = []
    for value, weight in weighed(table, bottom_of(table)):
        ways.append((weight, finder.number_of(course.by_value(state, value))))
    return ways


def pick_ways(course, finder, state):
    rows = course.open_rows(state)
    if len(rows) == 0:
        raise NoWay("a pick has no open way")
    return [finder.number_of(course.by_row(state, row, 0)) for row in rows]


def taken_up(course, finder, state):
    what = course.what_at(state)
    if what[0] == "throw":
        return ("throw", what[2], throw_ways(course, finder, state))
    if what[0] == "pick":
        return ("pick", what[1], pick_ways(course, finder, state))
    return ("end", course.end_worth(state))


def spread(game):
    course = Course(game)
    finder = Finder()
    finder.number_of(course.start())
    board = []
    while len(board) < len(finder.states):
        board.append(taken_up(course, finder, finder.states[len(board)]))
    return (board, finder.states, [course.words_at(state) for state in finder.states])
