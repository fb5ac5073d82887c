"""Games of named places and counts as texts."""

from pressluck.errors import NoGame, NoPool, NoShare, TooMany
from pressluck.pools import pool_table
from pressluck.pooltexts import read_pool, show_pool
from pressluck.shares import read_share, show_share, whole_in

LETTERS = "abcdefghijklmnopqrstuvwxyz"
MOST_LETTERS = 8
MOST_COUNTS = 4
MOST_OF_COUNT = 60
MOST_PLACES = 30
MOST_THROW_ROWS = 60
MOST_PICK_ROWS = 4
MOST_DEEDS = 6
MOST_NUMBER = 999
MOST_BOTTOM = 1000000
PERSONS = {"1": 1, "2": 2}
# How many words each deed is written with.
DEEDS = {"set": 3, "plus": 3, "face": 2, "move": 3}


def show_deeds(deeds):
    words = []
    for deed in deeds:
        words.extend([str(word) for word in deed])
    return words


def show_when(when):
    if when is None:
        return []
    return ["if", when[0], when[1], str(when[2])]


def show_throw_row(row):
    return " ".join(["from", str(row[0]), "to", str(row[1])] + show_deeds(row[2]) + ["go", row[3]])


def show_pick_row(row):
    return " ".join(["way", row[0]] + show_when(row[1]) + show_deeds(row[2]) + ["go", row[3]])


def show_what(what):
    if what[0] == "end":
        return [show_share(what[1])]
    if what[0] == "score":
        return [what[1]]
    if what[0] == "throw":
        return [show_pool(what[1]), "pay", show_share(what[2])]
    if what[0] == "pick":
        return [str(what[1])]
    return [what[1], "from", str(what[2]), "go", what[3], "else", what[4]]


def show_place(name, what):
    rows = [" ".join(["place", name, what[0]] + show_what(what))]
    if what[0] == "throw":
        rows.extend([show_throw_row(row) for row in what[3]])
    if what[0] == "pick":
        rows.extend([show_pick_row(row) for row in what[2]])
    return rows


def show_game(game):
    rows = [f"count {name} {most}" for name, most in game[0]]
    for name, what in game[1]:
        rows.extend(show_place(name, what))
    return "\n".join(rows)


def is_name(text):
    return 1 <= len(text) <= MOST_LETTERS and all([sign in LETTERS for sign in text])


# Told of the three words behind an if; None where they write no such thing.
def when_of(words):
    if len(words) != 3 or not is_name(words[0]) or words[1] not in ("from", "below"):
        return None
    number = whole_in(words[2], 0, MOST_NUMBER)
    return None if number is None else (words[0], words[1], number)


def demand(held, words):
    if not held:
        raise NoGame(words)


def read_number(text, least, most):
    number = whole_in(text, least, most)
    demand(number is not None, "where a number is due there is none, or one too small or too great")
    return number


def read_name(text):
    demand(is_name(text), "where a name is due there is none")
    return text


def read_known(text, names):
    demand(text in names, "a name is told that is not there")
    return text


def demand_unlike(names):
    demand(len(set(names)) == len(names), "a name or word stands twice")


def read_worth(text):
    try:
        worth = read_share(text)
    except NoShare as refusal:
        raise NoGame("where a share is due there is none") from refusal
    demand(worth[1] <= MOST_BOTTOM, "the bottom of a share is too great")
    return worth


def read_game_pool(text):
    try:
        return read_pool(text)
    except NoPool as refusal:
        raise NoGame("where a pool is due there is none") from refusal


def table_in_game(pool):
    try:
        return pool_table(pool)
    except TooMany as refusal:
        raise NoGame("a pool has too many throws") from refusal


def read_count(words):
    demand(len(words) == 3 and words[0] == "count", "where a count is due there is none")
    return (read_name(words[1]), read_number(words[2], 1, MOST_OF_COUNT))


def read_counts(rows):
    counts = [read_count(words) for words in rows]
    demand(len(counts) <= MOST_COUNTS, "the game has too many counts")
    demand_unlike([name for name, most in counts])
    return counts


def read_deed(words, counts):
    count = read_known(words[1], counts)
    if words[0] == "face":
        return ("face", count)
    if words[0] == "move":
        demand(words[2] != count, "a count is moved into itself")
        return ("move", count, read_known(words[2], counts))
    return (words[0], count, read_number(words[2], 0, MOST_NUMBER))


def read_deeds(words, counts):
    deeds = []
    spot = 0
    while spot < len(words):
        demand(words[spot] in DEEDS, "where a deed is due there is none")
        behind = spot + DEEDS[words[spot]]
        demand(behind <= len(words), "a deed lacks words")
        deeds.append(read_deed(words[spot:behind], counts))
        spot = behind
    demand(len(deeds) <= MOST_DEEDS, "a row has too many deeds")
    return deeds


def read_goal(words, names):
    demand(words[-2] == "go", "a row tells no goal")
    return read_known(words[-1], names)


def read_throw_row(words, counts, names):
    demand(len(words) >= 6 and words[0] == "from" and words[2] == "to", "where a row of a throw is due there is none")
    low = read_number(words[1], 0, MOST_NUMBER)
    high = read_number(words[3], low, MOST_NUMBER)
    return (low, high, read_deeds(words[4:-2], counts), read_goal(words, names))


def read_when(words, counts):
    when = when_of(words)
    demand(when is not None, "behind an if there is nothing that can hold")
    read_known(when[0], counts)
    return when


def read_pick_row(words, counts, names):
    demand(len(words) >= 4 and words[0] == "way", "where a row of a pick is due there is none")
    asked = words[2] == "if"
    ahead = 6 if asked else 2
    when = read_when(words[3:ahead], counts) if asked else None
    deeds = read_deeds(words[ahead:-2], counts)
    demand("face" not in [deed[0] for deed in deeds], "at a pick there is no thrown value")
    return (read_name(words[1]), when, deeds, read_goal(words, names))


def demand_each_in_one_row(pool, rows):
    for value, part in table_in_game(pool):
        holding = [row for row in rows if row[0] <= value <= row[1]]
        demand(len(holding) == 1, "a value lies in no row or in several")


def read_throw(words, rows, counts, names):
    demand(len(words) >= 3 and words[-2] == "pay", "a throw tells no pay")
    demand(1 <= len(rows) <= MOST_THROW_ROWS, "a throw has no rows or too many")
    pool = read_game_pool(" ".join(words[:-2]))
    told = [read_throw_row(row, counts, names) for row in rows]
    demand_each_in_one_row(pool, told)
    return ("throw", pool, read_worth(words[-1]), told)


def read_pick(words, rows, counts, names):
    demand(len(words) == 1 and words[0] in PERSONS, "a pick is of person 1 or 2")
    demand(1 <= len(rows) <= MOST_PICK_ROWS, "a pick has no rows or too many")
    told = [read_pick_row(row, counts, names) for row in rows]
    demand_unlike([row[0] for row in told])
    return ("pick", PERSONS[words[0]], told)


def read_ask(words, counts, behind):
    demand(len(words) == 7, "an ask has other words than told")
    demand(words[1] == "from" and words[3] == "go" and words[5] == "else", "an ask has other words than told")
    count = read_known(words[0], counts)
    number = read_number(words[2], 0, MOST_NUMBER)
    return ("ask", count, number, read_known(words[4], behind), read_known(words[6], behind))


def read_plain(kind, words, counts, behind):
    if kind == "ask":
        return read_ask(words, counts, behind)
    demand(kind in ("end", "score") and len(words) == 1, "where a place is due there is none")
    if kind == "end":
        return ("end", read_worth(words[0]))
    return ("score", read_known(words[0], counts))


def read_what(group, counts, names, behind):
    kind = group[0][2]
    words = group[0][3:]
    rows = group[1:]
    if kind == "throw":
        return read_throw(words, rows, counts, names)
    if kind == "pick":
        return read_pick(words, rows, counts, names)
    demand(len(rows) == 0, "rows stand behind a place that has none")
    return read_plain(kind, words, counts, behind)


# The rows ahead of the first place, and then those of each place, its own row first.
def grouped(rows):
    groups = [[]]
    for words in rows:
        if words[0] == "place":
            groups.append([])
        groups[-1].append(words)
    return groups


def read_places(groups, counts):
    demand(1 <= len(groups) <= MOST_PLACES, "the game has no places or too many")
    demand(all([len(group[0]) >= 4 for group in groups]), "where a place is due there is none")
    names = [read_name(group[0][1]) for group in groups]
    demand_unlike(names)
    places = []
    for number, group in enumerate(groups):
        places.append((names[number], read_what(group, counts, names, names[number + 1:])))
    return places


def read_game(text):
    demand(isinstance(text, str), "a game is read from a text alone")
    groups = grouped([row.split(" ") for row in text.split("\n")])
    counts = read_counts(groups[0])
    return (counts, read_places(groups[1:], [name for name, most in counts]))
