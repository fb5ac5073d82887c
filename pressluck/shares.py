"""Whole numbers and shares: fractions in lowest terms, reckoned and written."""

from pressluck.errors import NoShare

FIGURES = "0123456789"
MOST_FIGURES = 12


def is_whole(thing):
    return isinstance(thing, int) and not isinstance(thing, bool)


def common_divisor(one, other):
    one = abs(one)
    other = abs(other)
    while other != 0:
        rest = one % other
        one = other
        other = rest
    return one


def share(top, bottom):
    if bottom == 0:
        raise NoShare("the bottom of a share is not 0")
    divisor = common_divisor(top, bottom)
    # Dividing by the bottom's sign too leaves every bottom above 0.
    if bottom < 0:
        divisor = -divisor
    return (top // divisor, bottom // divisor)


def plus(one, other):
    return share(one[0] * other[1] + other[0] * one[1], one[1] * other[1])


def minus(one, other):
    return share(one[0] * other[1] - other[0] * one[1], one[1] * other[1])


def times(one, other):
    return share(one[0] * other[0], one[1] * other[1])


def over(one, other):
    return share(one[0] * other[1], one[1] * other[0])


def under(one, other):
    return one[0] * other[1] < other[0] * one[1]


# The least bottom that all the shares can be written over.
def common_bottom(several):
    common = 1
    for one in several:
        common = common // common_divisor(common, one[1]) * one[1]
    return common


def show_share(one):
    if one[1] == 1:
        return str(one[0])
    return str(one[0]) + "/" + str(one[1])


# The text method isdigit would also take figures that are not 0 to 9.
def is_figures(text):
    return 1 <= len(text) <= MOST_FIGURES and all([sign in FIGURES for sign in text])


# None where the text writes no such number; a 0 ahead is none of the written forms.
def whole_in(text, least, most):
    if not is_figures(text):
        return None
    number = int(text)
    return number if str(number) == text and least <= number <= most else None


def read_share(text):
    if not isinstance(text, str):
        raise NoShare("a share is read from a text alone")
    negative = text.startswith("-")
    unsigned = text[1:] if negative else text
    numbers = unsigned.split("/")
    if len(numbers) > 2 or not all([is_figures(number) for number in numbers]):
        raise NoShare("the text writes no share")
    top = int(numbers[0])
    bottom = int(numbers[1]) if len(numbers) == 2 else 1
    one = share(-top if negative else top, bottom)
    # Each share is written in one way alone: so noughts ahead, -0, a bottom of 1 and common divisors fall out here.
    if show_share(one) != text:
        raise NoShare("the text writes a share in another way than the one told")
    return one
