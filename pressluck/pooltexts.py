"""Pools of dice as texts."""

from pressluck.errors import NoPool
from pressluck.shares import whole_in

MOST_PARTS = 4
MOST_NUMBER = 99
MOST_DICE = 6
MOST_SIDES = 20
# Of the words ahead of dice: the least and the greatest number that may stand behind them.
OF_MANY = {"best": (1, 6), "worst": (1, 6), "hits": (1, 20)}
OF_ONE = {"again": (0, 20), "burst": (0, 6)}


def show_dice(dice, sides):
    if dice == 1:
        return f"d{sides}"
    return f"{dice}d{sides}"


def show_part(part):
    if part[0] == "number":
        return str(part[1])
    if part[0] == "dice":
        return show_dice(part[1], part[2])
    dice = 1 if part[0] in OF_ONE else part[2]
    return " ".join([part[0], str(part[1]), "of", show_dice(dice, part[-1])])


def show_pool(pool):
    return " + ".join([show_part(part) for part in pool])


def read_number(text, least, most):
    number = whole_in(text, least, most)
    if number is None:
        raise NoPool("where a number is due there is none, or one too small or too great")
    return number


def read_dice(text):
    pieces = text.split("d")
    if len(pieces) != 2:
        raise NoPool("where dice are due there are none")
    # One die is written without its number, so 1d6 is none of the written forms.
    dice = 1 if pieces[0] == "" else read_number(pieces[0], 2, MOST_DICE)
    return (dice, read_number(pieces[1], 1, MOST_SIDES))


def read_worded(kind, figures, dice_text):
    dice = read_dice(dice_text)
    if kind in OF_ONE:
        number = read_number(figures, OF_ONE[kind][0], OF_ONE[kind][1])
        if dice[0] != 1:
            raise NoPool("just one die is thrown there")
        return (kind, number, dice[1])
    if kind not in OF_MANY:
        raise NoPool("the part begins with an unknown word")
    number = read_number(figures, OF_MANY[kind][0], OF_MANY[kind][1])
    if kind != "hits" and number > dice[0]:
        raise NoPool("more dice are taken than there are")
    return (kind, number, dice[0], dice[1])


def read_part(text):
    words = text.split(" ")
    if len(words) == 4 and words[2] == "of":
        return read_worded(words[0], words[1], words[3])
    if len(words) != 1:
        raise NoPool("the text writes no part of a pool")
    if "d" in text:
        return ("dice",) + read_dice(text)
    return ("number", read_number(text, 0, MOST_NUMBER))


def read_pool(text):
    if not isinstance(text, str):
        raise NoPool("a pool is read from a text alone")
    pieces = text.split(" + ")
    if len(pieces) > MOST_PARTS:
        raise NoPool("the pool has too many parts")
    return [read_part(piece) for piece in pieces]
