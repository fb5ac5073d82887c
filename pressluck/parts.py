"""Boards: which places are reached from which, and the parts of places that are reached from one another."""

from pressluck.ends import goals


# Each reached place, the nearer ones first, with the place and the way by which it was come to.
def steps_from(board, start):
    steps = {start: None}
    found = [start]
    turn = 0
    while turn < len(found):
        here = found[turn]
        for way, to in enumerate(goals(board[here])):
            if to not in steps:
                steps[to] = (here, way)
                found.append(to)
        turn = turn + 1
    return steps


def reached(board, start):
    return sorted(steps_from(board, start))


def way_to(board, start, goal):
    steps = steps_from(board, start)
    if goal not in steps:
        return None
    back = []
    step = steps[goal]
    while step is not None:
        back.append(step[1])
        step = steps[step[0]]
    return list(reversed(back))


def parts(board):
    reach = [steps_from(board, start) for start in range(len(board))]
    found = []
    for place in range(len(board)):
        part = [other for other in sorted(reach[place]) if place in reach[other]]
        if part[0] == place:
            found.append(part)
    # A part that leads into another one reaches all that this one does, and itself besides: so it reaches more.
    return sorted(found, key=lambda members: len(reach[members[0]]))
