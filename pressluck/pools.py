"""Pools of dice: their plain throws and their tables."""

from pressluck.errors import TooMany
from pressluck.shares import share
from pressluck.tables import table_of

MOST_THROWS = 1296
MOST_BOTTOM = 1000000


# Stops once it is above all that is asked for, so that a pool far too great is refused at once.
def power(base, exponent):
    product = 1
    for turn in range(exponent):
        if product > MOST_BOTTOM:
            break
        product = product * base
    return product


def most_faces(part):
    if part[0] == "number":
        return 0
    if part[0] == "again":
        return 2 if part[1] > 0 else 1
    if part[0] == "burst":
        return max(part[1], 0) + 1
    return part[-2]


def part_bottom(part):
    return power(part[-1], most_faces(part))


def part_count(part):
    sides = part[-1]
    if part[0] == "again":
        low = max(min(part[1], sides), 0)
        return low * sides + sides - low
    if part[0] == "burst":
        return most_faces(part) * (sides - 1) + 1
    return part_bottom(part)


def check_size(pool):
    count = 1
    bottom = 1
    for part in pool:
        count = count * part_count(part)
        bottom = bottom * part_bottom(part)
    if count > MOST_THROWS or bottom > MOST_BOTTOM:
        raise TooMany("the pool has too many throws")


def dice_faces(dice, sides):
    found = [[]]
    for turn in range(dice):
        longer = []
        for faces in found:
            longer.extend([faces + [face] for face in range(1, sides + 1)])
        found = longer
    return found


def again_faces(low, sides):
    found = []
    for face in range(1, sides + 1):
        if face <= low:
            found.extend([[face, second] for second in range(1, sides + 1)])
        else:
            found.append([face])
    return found


def burst_faces(most, sides):
    found = []
    for ahead in range(most):
        found.extend([[sides] * ahead + [face] for face in range(1, sides)])
    found.append([sides] * most)
    return found


def part_faces(part):
    if part[0] == "number":
        return [[]]
    if part[0] == "again":
        return again_faces(part[1], part[2])
    if part[0] == "burst":
        return burst_faces(most_faces(part), part[2])
    return dice_faces(part[-2], part[-1])


def value_of(part, faces):
    if part[0] == "number":
        return part[1]
    if part[0] == "best":
        return sum(sorted(faces, reverse=True)[:part[1]])
    if part[0] == "worst":
        return sum(sorted(faces)[:part[1]])
    if part[0] == "hits":
        return len([face for face in faces if face >= part[1]])
    if part[0] == "again":
        return faces[-1]
    return sum(faces)


def sides_product(part, faces):
    product = 1
    for face in faces:
        product = product * part[-1]
    return product


def part_throws(part):
    return [(faces, value_of(part, faces), sides_product(part, faces)) for faces in part_faces(part)]


def throws_by_bottom(pool):
    check_size(pool)
    found = [([], 0, 1)]
    # The throws of a part rise, and none of them begins another: so those of the pool rise too, and none comes twice.
    for part in pool:
        behind = part_throws(part)
        longer = []
        for faces, value, bottom in found:
            longer.extend([(faces + more[0], value + more[1], bottom * more[2]) for more in behind])
        found = longer
    return found


def throws(pool):
    return [(faces, value, share(1, bottom)) for faces, value, bottom in throws_by_bottom(pool)]


def pool_table(pool):
    found = throws_by_bottom(pool)
    common = 1
    for part in pool:
        common = common * part_bottom(part)
    return table_of([(value, common // bottom) for faces, value, bottom in found])
