"""Boards for the tests, and plain ways to look at them that owe nothing to the program."""

import itertools
from fractions import Fraction


def as_share(number):
    return Fraction(number).as_integer_ratio()


def some_share(source):
    return as_share(Fraction(source.randrange(-12, 13), source.choice((1, 1, 1, 2, 3, 4, 7))))


def goals_of(place):
    if place[0] == "throw":
        return [to for weight, to in place[2]]
    return list(place[2]) if place[0] == "pick" else []


def renumbered(board, numbers):
    """The same board, the place k having the number numbers[k]."""
    turned = [None] * len(board)
    for number, place in enumerate(board):
        if place[0] == "throw":
            place = ("throw", place[1], [(weight, numbers[to]) for weight, to in place[2]])
        elif place[0] == "pick":
            place = ("pick", place[1], [numbers[to] for to in place[2]])
        turned[numbers[number]] = place
    return turned


def some_board(source, size, ends=0.2, picks=0.4, ways=3):
    """Any board, often with a ring."""
    board = []
    for number in range(size):
        kind = source.random()
        if kind < ends:
            board.append(("end", some_share(source)))
        elif kind < ends + picks:
            board.append(("pick", source.choice((1, 2)),
                          [source.randrange(size) for way in range(source.randint(1, min(ways, 4)))]))
        else:
            board.append(("throw", some_share(source),
                          [(source.randint(1, 6), source.randrange(size)) for way in range(source.randint(1, ways))]))
    return board


def ending_place(source, number, size, picks, ways):
    if source.random() < picks:
        return ("pick", source.choice((1, 2)),
                [source.randrange(number) for way in range(source.randint(1, min(ways, 4)))])
    to = [source.randrange(number)] + [source.randrange(size) for way in range(source.randrange(ways))]
    source.shuffle(to)
    return ("throw", some_share(source), [(source.randint(1, 6), goal) for goal in to])


def ending_board(source, size, ends=2, picks=0.4, ways=3):
    """A board without a ring, with ways back: each pick leads down alone, each throw down by one way at least."""
    ends = min(ends, size)
    board = [("end", some_share(source)) for number in range(ends)]
    board.extend(ending_place(source, number, size, picks, ways) for number in range(ends, size))
    numbers = list(range(size))
    source.shuffle(numbers)
    return renumbered(board, numbers)


def distances(board):
    """The number of ways from each place to each, or None, over all places in between."""
    size = len(board)
    far = [[0 if one == other else None for other in range(size)] for one in range(size)]
    for one, place in enumerate(board):
        for to in goals_of(place):
            if to != one:
                far[one][to] = 1
    for middle, one, other in itertools.product(range(size), repeat=3):
        if far[one][middle] is not None and far[middle][other] is not None:
            length = far[one][middle] + far[middle][other]
            if far[one][other] is None or length < far[one][other]:
                far[one][other] = length
    return far


def ring_of(board):
    """What is left when places that can't be held in are taken away, one by one."""
    left = set(range(len(board)))
    while True:
        for number in sorted(left):
            held = [to in left for to in goals_of(board[number])]
            if not held or (not all(held) if board[number][0] == "throw" else not any(held)):
                left.remove(number)
                break
        else:
            return sorted(left)


def all_picks(board, who=(1, 2), kept=None):
    """All lists of picks of these persons; the other's are as in kept."""
    choices = []
    for number, place in enumerate(board):
        if place[0] != "pick":
            choices.append([None])
        elif place[1] in who:
            choices.append(range(len(place[2])))
        else:
            choices.append([kept[number]])
    return [list(picks) for picks in itertools.product(*choices)]


def some_picks(source, board):
    return [source.randrange(len(place[2])) if place[0] == "pick" else None for place in board]
