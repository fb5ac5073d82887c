"""What a rule holds for a person, and where it loses."""

from pressluck.best import best
from pressluck.papers import slips
from pressluck.rules import spread_picks_by
from pressluck.shares import minus
from pressluck.spread import spread
from pressluck.worths import visits


def held_place(place, way, who):
    if place[0] == "throw":
        return ("throw", place[1], list(place[2]))
    if place[0] == "pick":
        return ("pick", place[1], [place[2][way]] if place[1] == who else list(place[2]))
    return place


def held_board(board, picks, who):
    return [held_place(place, way, who) for place, way in zip(board, picks)]


def unsigned(one):
    return (abs(one[0]), one[1])


def losing_places(board, often, lost, who):
    return [number for number, place in enumerate(board)
            if place[0] == "pick" and place[1] == who and often[number][0] != 0 and lost[number][0] != 0]


def judged(game, rule, who):
    told = spread(game)
    board = told[0]
    worths = best(board)[0]
    picks = spread_picks_by(game, told, rule)
    held = held_board(board, picks, who)
    answer = best(held)
    hold = answer[0][0]
    if hold == worths[0]:
        return ("good", hold)
    lost = slips(board, worths, picks)
    # There is one: else all that is lost on the way were the other's, and the person would hold more than the worth.
    place = losing_places(board, visits(held, answer[1], 0), lost, who)[0]
    return ("worse", hold, unsigned(minus(worths[0], hold)), place, unsigned(lost[place]))
