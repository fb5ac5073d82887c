"""The worths and the visits of a board's places, when it is told what is picked."""

from pressluck.ends import ring
from pressluck.errors import NoEnd, TooMany
from pressluck.lines import turned_rows, whole_answers
from pressluck.parts import parts
from pressluck.shares import common_bottom, share

MOST_PLACES = 40
MOST_PICKS = 4096


def ways_of_picks(board, part):
    product = 1
    for place in part:
        if board[place][0] == "pick":
            product = product * len(board[place][2])
    return product


# Whatever tells worths, visits or a way to play asks for the parts here, so that all refuse alike.
def checked_parts(board):
    left = ring(board)
    if len(left) > 0:
        raise NoEnd(left)
    found = parts(board)
    for part in found:
        if len(part) > MOST_PLACES or ways_of_picks(board, part) > MOST_PICKS:
            raise TooMany("a part of the board is too great")
    return found


# A pick is thus a throw of just one way, an end one of none: all three are reckoned alike.
def weighted_ways(place, way):
    if place[0] == "throw":
        return place[2]
    if place[0] == "pick":
        return [(1, place[2][way])]
    return []


def all_weighted_ways(board, picks):
    return [weighted_ways(place, way) for place, way in zip(board, picks)]


def total_weight(ways):
    return sum([weight for weight, to in ways]) if len(ways) > 0 else 1


# Each row says of a place, times the sum of its weights: its worth, less what its ways bring within the part.
def part_rows(part, ways):
    spots = {}
    for spot, place in enumerate(part):
        spots[place] = spot
    rows = []
    for spot, place in enumerate(part):
        row = [0] * len(part)
        row[spot] = total_weight(ways[place])
        for weight, to in ways[place]:
            if to in spots:
                row[spots[to]] -= weight
        rows.append(row)
    return rows


# Holds a whole number for each place, all over one bottom: so shares are brought to lowest terms once, at the end.
class Book:
    def __init__(self, tops, bottom):
        self.tops = list(tops)
        self.bottom = bottom

    def scaled(self, factor):
        return Book([top * factor for top in self.tops], self.bottom * factor)

    def as_shares(self):
        return [share(top, self.bottom) for top in self.tops]


def gain_of(place):
    return (0, 1) if place[0] == "pick" else place[1]


def book_of(several):
    bottom = common_bottom(several)
    return Book([one[0] * (bottom // one[1]) for one in several], bottom)


def gains_of(board):
    return book_of([gain_of(place) for place in board])


def blank_worths(gains):
    return Book([0] * len(gains.tops), gains.bottom)


# The book holds the worths of all places out of the part that its ways lead to, and 0 at the part's own.
def with_worths(book, gains, part, ways):
    scale = book.bottom // gains.bottom
    right = []
    for place in part:
        gain = total_weight(ways[place]) * gains.tops[place] * scale
        right.append(gain + sum([weight * book.tops[to] for weight, to in ways[place]]))
    answers = whole_answers(part_rows(part, ways), right)
    told = book.scaled(answers[1])
    for place, top in zip(part, answers[0]):
        told.tops[place] = top
    return told


def worths_of(board, picks):
    found = checked_parts(board)
    ways = all_weighted_ways(board, picks)
    gains = gains_of(board)
    book = blank_worths(gains)
    for part in found:
        book = with_worths(book, gains, part, ways)
    return book.as_shares()


# The book holds, at the part's own places, how often one comes there from out of the part.
def with_visits(book, part, ways):
    coming = [book.tops[place] for place in part]
    if not any(coming):
        return book
    # The unknowns are the visits, each divided by the sum of its place's weights: so all stays whole.
    answers = whole_answers(turned_rows(part_rows(part, ways)), coming)
    told = book.scaled(answers[1])
    for place, top in zip(part, answers[0]):
        told.tops[place] = top * total_weight(ways[place])
        for weight, to in ways[place]:
            if to not in part:
                told.tops[to] += top * weight
    return told


def visits(board, picks, start):
    found = checked_parts(board)
    ways = all_weighted_ways(board, picks)
    book = Book([0] * len(board), 1)
    book.tops[start] = 1
    for part in reversed(found):
        book = with_visits(book, part, ways)
    return book.as_shares()
