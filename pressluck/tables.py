"""Tables: whole values, each with the share of the throws that bring it."""

from pressluck.errors import NoTable
from pressluck.shares import common_bottom, share


# Weights over one bottom are summed as whole numbers, so that each share is brought to lowest terms just once.
def table_by_weights(weights, bottom):
    return [(value, share(weights[value], bottom)) for value in sorted(weights)]


def table_of(rows):
    weights = {}
    for value, weight in rows:
        if weight < 0:
            raise NoTable("a weight is below 0")
        if weight > 0:
            weights[value] = weights.get(value, 0) + weight
    if len(weights) == 0:
        raise NoTable("no weight is above 0")
    return table_by_weights(weights, sum(weights.values()))


def bottom_of(table):
    return common_bottom([part for value, part in table])


def weighed(table, bottom):
    return [(value, part[0] * (bottom // part[1])) for value, part in table]


def added(one, other):
    first_bottom = bottom_of(one)
    second_bottom = bottom_of(other)
    second_rows = weighed(other, second_bottom)
    weights = {}
    for first, first_weight in weighed(one, first_bottom):
        for second, second_weight in second_rows:
            value = first + second
            weights[value] = weights.get(value, 0) + first_weight * second_weight
    return table_by_weights(weights, first_bottom * second_bottom)


def mean(table):
    bottom = bottom_of(table)
    return share(sum([value * weight for value, weight in weighed(table, bottom)]), bottom)


def share_from(table, number):
    bottom = bottom_of(table)
    return share(sum([weight for value, weight in weighed(table, bottom) if value >= number]), bottom)
