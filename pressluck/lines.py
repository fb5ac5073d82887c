"""Rows of whole numbers with right sides: the one list of shares that fits them, or how the rows hang together."""

from pressluck.shares import share


def row_with_head(rows, start):
    for spot in range(start, len(rows)):
        if rows[spot][0] != 0:
            return spot
    return None


def swapped(rows, one, other):
    turned = list(rows)
    turned[one] = rows[other]
    turned[other] = rows[one]
    return turned


# All numbers stay minors of the rows handed in: so the quotient by the head before is whole, and none grows too long.
def without_first_column(rows, spot, last):
    head = rows[spot][0]
    tail = rows[spot][1:]
    left = []
    for number, row in enumerate(rows):
        if number == spot:
            left.append(tail)
        else:
            first = row[0]
            left.append([(head * one - first * other) // last for one, other in zip(row[1:], tail)])
    return left


# Sweeps the columns one by one, up to the first that can't be swept. Tells what is left of the rows behind the swept
# columns, how many these are, and the last head: in row k the column k would hold just this, all other swept ones 0.
def swept(rows, columns):
    last = 1
    for column in range(columns):
        spot = row_with_head(rows, column)
        if spot is None:
            return (rows, column, last)
        rows = swapped(rows, column, spot)
        head = rows[column][0]
        rows = without_first_column(rows, column, last)
        last = head
    return (rows, columns, last)


# A tuple (tops, bottom): all answers over one bottom above 0, as bringing each to lowest terms takes long. None where
# the rows are bent.
def whole_answers(rows, right):
    done = swept([row + [side] for row, side in zip(rows, right)], len(rows))
    if done[1] < len(rows):
        return None
    sign = 1 if done[2] > 0 else -1
    return ([row[0] * sign for row in done[0]], done[2] * sign)


def column_of(rows, column):
    return [row[column] for row in rows]


def turned_rows(rows):
    return [column_of(rows, column) for column in range(len(rows))]


# The first column of the turned rows that can't be swept is made up of the swept ones ahead of it.
def factors_to_noughts(rows):
    done = swept(turned_rows(rows), len(rows))
    factors = [-row[0] for row in done[0][:done[1]]] + [done[2]]
    return factors + [0] * (len(rows) - len(factors))


def solved(rows, right):
    answers = whole_answers(rows, right)
    if answers is None:
        return ("bent", factors_to_noughts(rows))
    return ("one", [share(top, answers[1]) for top in answers[0]])
