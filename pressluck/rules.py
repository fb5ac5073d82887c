"""Rules of play told in words: their texts, and the picks that they bring."""

from pressluck.errors import NoRule
from pressluck.games import is_name, show_when, when_of
from pressluck.spread import Course, spread

MOST_ROWS = 30


def show_rule(rule):
    return "\n".join([" ".join([name, word] + show_when(when)) for name, word, when in rule])


def read_rule_row(row):
    words = row.split(" ")
    if len(words) not in (2, 6) or not is_name(words[0]) or not is_name(words[1]):
        raise NoRule("where a row of a rule is due there is none")
    if len(words) == 2:
        return (words[0], words[1], None)
    when = when_of(words[3:])
    if words[2] != "if" or when is None:
        raise NoRule("behind a row's word there is nothing that can hold")
    return (words[0], words[1], when)


def read_rule(text):
    if not isinstance(text, str):
        raise NoRule("a rule is read from a text alone")
    if text == "":
        return []
    rows = text.split("\n")
    if len(rows) > MOST_ROWS:
        raise NoRule("the rule has too many rows")
    return [read_rule_row(row) for row in rows]


def way_by(rule, course, state, words):
    for name, word, when in rule:
        if name == state[0] and word in words and course.holds(when, state[1]):
            return words.index(word)
    return 0


# Told of a game and what it is spread into, so that who needs both spreads it just once.
def spread_picks_by(game, told, rule):
    course = Course(game)
    picks = []
    for place, state, words in zip(told[0], told[1], told[2]):
        picks.append(way_by(rule, course, state, words) if place[0] == "pick" else None)
    return picks


def picks_by(game, rule):
    return spread_picks_by(game, spread(game), rule)
