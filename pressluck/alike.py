"""Places of two boards that are alike."""

from pressluck.shares import common_divisor


def numbered(marks):
    numbers = {}
    for mark in marks:
        if mark not in numbers:
            numbers[mark] = len(numbers)
    return [numbers[mark] for mark in marks]


# Weights are brought to the least whole numbers: two throws have like ones just where they have like shares.
def throw_mark(ways, numbers):
    weights = {}
    for weight, to in ways:
        weights[numbers[to]] = weights.get(numbers[to], 0) + weight
    divisor = 0
    for weight in weights.values():
        divisor = common_divisor(divisor, weight)
    return tuple([(number, weights[number] // divisor) for number in sorted(weights)])


def mark_of(place, number, numbers):
    if place[0] == "throw":
        return (number, throw_mark(place[2], numbers))
    if place[0] == "pick":
        return (number, tuple(sorted(set([numbers[to] for to in place[2]]))))
    return (number, ())


# The numbers are those of the board's own places.
def marks_of(board, numbers):
    return [mark_of(place, number, numbers) for place, number in zip(board, numbers)]


def next_round(one, other, last):
    size = len(one)
    return numbered(marks_of(one, last[:size]) + marks_of(other, last[size:]))


def rounds(one, other):
    # Of each kind of place the first two things are its mark.
    told = [numbered([place[:2] for place in one + other])]
    while True:
        coming = next_round(one, other, told[-1])
        if len(set(coming)) == len(set(told[-1])):
            return told
        told.append(coming)


def alike(one, first, other, second):
    last = rounds(one, other)[-1]
    return last[first] == last[len(one) + second]
