"""Boards: the levels of their places, and the ring of places that both together can stay in for ever."""


def goals(place):
    if place[0] == "throw":
        return [to for weight, to in place[2]]
    if place[0] == "pick":
        return list(place[2])
    return []


def is_ready(place, found):
    levelled = [found[to] is not None for to in goals(place)]
    if place[0] == "throw":
        return any(levelled)
    return all(levelled)


def ready_places(board, found):
    return [number for number, place in enumerate(board) if found[number] is None and is_ready(place, found)]


def levels(board):
    found = [0 if place[0] == "end" else None for place in board]
    level = 1
    # A round looks at earlier rounds alone: so its places are gathered first, and get their level together.
    fresh = ready_places(board, found)
    while len(fresh) > 0:
        for number in fresh:
            found[number] = level
        level = level + 1
        fresh = ready_places(board, found)
    return found


def ring(board):
    return [number for number, level in enumerate(levels(board)) if level is None]


def first_way_into(place, inside):
    for way, to in enumerate(goals(place)):
        if to in inside:
            return way
    return None


def stays(board):
    inside = {}
    for number in ring(board):
        inside[number] = True
    return [first_way_into(place, inside) if number in inside else None for number, place in enumerate(board)]
