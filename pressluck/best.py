"""What each place of a board is worth when both play best, and the picks that bring it."""

from pressluck.worths import all_weighted_ways, blank_worths, checked_parts, gains_of, weighted_ways, with_worths


# Signs are turned for person 2, so that for both the greatest is the best.
def wanted_way(place, tops):
    sign = 1 if place[1] == 1 else -1
    wanted = [sign * tops[to] for to in place[2]]
    return wanted.index(max(wanted))


def better_ways(board, places, ways, tops):
    found = []
    for place in places:
        way = wanted_way(board[place], tops)
        picked = ways[place][0][1]
        if tops[board[place][2][way]] != tops[picked]:
            found.append((place, way))
    return found


def picks_of(board, part, who):
    return [place for place in part if board[place][0] == "pick" and board[place][1] == who]


# Person 1 changes picks only where person 2 has no better answer to the last ones. So a change of person 1 raises
# worths and lowers none, and no choice of person 1 comes twice; where neither has a better way the worths fit.
def with_best_worths(book, gains, part, board, ways):
    first = picks_of(board, part, 1)
    second = picks_of(board, part, 2)
    while True:
        told = with_worths(book, gains, part, ways)
        better = better_ways(board, second, ways, told.tops)
        if len(better) == 0:
            better = better_ways(board, first, ways, told.tops)
        if len(better) == 0:
            return told
        for place, way in better:
            ways[place] = weighted_ways(board[place], way)


def best_pick(place, worth, worths):
    if place[0] != "pick":
        return None
    return [worths[to] for to in place[2]].index(worth)


def best(board):
    found = checked_parts(board)
    ways = all_weighted_ways(board, [0] * len(board))
    gains = gains_of(board)
    book = blank_worths(gains)
    for part in found:
        book = with_best_worths(book, gains, part, board, ways)
    worths = book.as_shares()
    return (worths, [best_pick(place, worth, worths) for place, worth in zip(board, worths)])
