"""Where a list of worths does not fit a board, and what picks lose by it."""

from pressluck.shares import minus
from pressluck.worths import book_of, gain_of, total_weight


# All tops stand over one bottom, so they are compared as whole numbers.
def fits(place, top, gain, tops):
    if place[0] == "end":
        return top == gain
    if place[0] == "throw":
        return (top - gain) * total_weight(place[2]) == sum([weight * tops[to] for weight, to in place[2]])
    leads = [tops[to] for to in place[2]]
    return top == (max(leads) if place[1] == 1 else min(leads))


def misfits(board, worths):
    tops = book_of(worths + [gain_of(place) for place in board]).tops
    gains = tops[len(worths):]
    return [number for number, place in enumerate(board) if not fits(place, tops[number], gains[number], tops)]


def slips(board, worths, picks):
    found = []
    for place, worth, way in zip(board, worths, picks):
        found.append(minus(worth, worths[place[2][way]]) if place[0] == "pick" else (0, 1))
    return found
