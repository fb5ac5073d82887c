"""Boards and games for the tests, and plain ways to look at them that owe nothing to the program."""

import itertools
from fractions import Fraction

# Most of them are words that the rows of a game are written with.
NAMES = """go if from end place set plus face move way count throw pick ask score pay to else below of best worst hits
again burst d a z ok none rule game say back play points worth even ring good worse abcdefgh zzzzzzzz turn bank keep
roll""".split()
# A game: person 1 throws a coin until it comes to 2, or keeps what there is.
COIN = """count sum 2
place at ask sum from 2 go won else choose
place choose pick 1
way more go cast
way keep if sum from 1 go won
place cast throw d2 pay 1/3
from 1 to 1 set sum 0 go lost
from 2 to 2 plus sum 1 go at
place lost end -1
place won score sum"""
# Each pool with its values and their weights, reckoned by hand.
POOLS = [
    ([("number", 3)], {3: 1}),
    ([("dice", 1, 2)], {1: 1, 2: 1}),
    ([("dice", 1, 6)], {1: 1, 2: 1, 3: 1, 4: 1, 5: 1, 6: 1}),
    ([("dice", 2, 2)], {2: 1, 3: 2, 4: 1}),
    ([("hits", 2, 2, 3)], {0: 1, 1: 4, 2: 4}),
    ([("best", 1, 2, 3)], {1: 1, 2: 3, 3: 5}),
    ([("again", 1, 2)], {1: 1, 2: 3}),
    ([("burst", 1, 3), ("number", 0)], {1: 3, 2: 3, 4: 1, 5: 1, 6: 1}),
    ([("worst", 1, 2, 2), ("number", 9)], {10: 3, 11: 1}),
    ([("hits", 3, 1, 4), ("hits", 20, 1, 20)], {0: 19, 1: 20, 2: 1}),
]


def as_share(number):
    return Fraction(number).as_integer_ratio()


def some_share(source):
    return as_share(Fraction(source.randrange(-12, 13), source.choice((1, 1, 1, 2, 3, 4, 7))))


def goals_of(place):
    if place[0] == "throw":
        return [to for weight, to in place[2]]
    return list(place[2]) if place[0] == "pick" else []


def renumbered(board, numbers):
    """The same board, the place k having the number numbers[k]."""
    turned = [None] * len(board)
    for number, place in enumerate(board):
        if place[0] == "throw":
            place = ("throw", place[1], [(weight, numbers[to]) for weight, to in place[2]])
        elif place[0] == "pick":
            place = ("pick", place[1], [numbers[to] for to in place[2]])
        turned[numbers[number]] = place
    return turned


def some_board(source, size, ends=0.2, picks=0.4, ways=3):
    """Any board, often with a ring."""
    board = []
    for number in range(size):
        kind = source.random()
        if kind < ends:
            board.append(("end", some_share(source)))
        elif kind < ends + picks:
            board.append(("pick", source.choice((1, 2)),
                          [source.randrange(size) for way in range(source.randint(1, min(ways, 4)))]))
        else:
            board.append(("throw", some_share(source),
                          [(source.randint(1, 6), source.randrange(size)) for way in range(source.randint(1, ways))]))
    return board


def ending_place(source, number, size, picks, ways):
    if source.random() < picks:
        return ("pick", source.choice((1, 2)),
                [source.randrange(number) for way in range(source.randint(1, min(ways, 4)))])
    to = [source.randrange(number)] + [source.randrange(size) for way in range(source.randrange(ways))]
    source.shuffle(to)
    return ("throw", some_share(source), [(source.randint(1, 6), goal) for goal in to])


def ending_board(source, size, ends=2, picks=0.4, ways=3):
    """A board without a ring, with ways back: each pick leads down alone, each throw down by one way at least."""
    ends = min(ends, size)
    board = [("end", some_share(source)) for number in range(ends)]
    board.extend(ending_place(source, number, size, picks, ways) for number in range(ends, size))
    numbers = list(range(size))
    source.shuffle(numbers)
    return renumbered(board, numbers)


def distances(board):
    """The number of ways from each place to each, or None, over all places in between."""
    size = len(board)
    far = [[0 if one == other else None for other in range(size)] for one in range(size)]
    for one, place in enumerate(board):
        for to in goals_of(place):
            if to != one:
                far[one][to] = 1
    for middle, one, other in itertools.product(range(size), repeat=3):
        if far[one][middle] is not None and far[middle][other] is not None:
            length = far[one][middle] + far[middle][other]
            if far[one][other] is None or length < far[one][other]:
                far[one][other] = length
    return far


def ring_of(board):
    """What is left when places that can't be held in are taken away, one by one."""
    left = set(range(len(board)))
    while True:
        for number in sorted(left):
            held = [to in left for to in goals_of(board[number])]
            if not held or (not all(held) if board[number][0] == "throw" else not any(held)):
                left.remove(number)
                break
        else:
            return sorted(left)


def all_picks(board, who=(1, 2), kept=None):
    """All lists of picks of these persons; the other's are as in kept."""
    choices = []
    for number, place in enumerate(board):
        if place[0] != "pick":
            choices.append([None])
        elif place[1] in who:
            choices.append(range(len(place[2])))
        else:
            choices.append([kept[number]])
    return [list(picks) for picks in itertools.product(*choices)]


def some_picks(source, board):
    return [source.randrange(len(place[2])) if place[0] == "pick" else None for place in board]


def some_when(source, counts):
    if not counts or source.random() < 0.4:
        return None
    return (source.choice(counts)[0], source.choice(("from", "below")), source.choice((0, 1, 1, 2, 3, 999)))


def some_deeds(source, counts, thrown):
    deeds = []
    for turn in range(source.choice((0, 1, 1, 2, 3, 6)) if counts else 0):
        names = [name for name, greatest in counts]
        kind = source.choice(("set", "plus", "plus", "plus", "move", "face", "face"))
        if kind == "face" and thrown:
            deeds.append(("face", source.choice(names)))
        elif kind == "move" and len(names) > 1:
            deeds.append(("move",) + tuple(source.sample(names, 2)))
        elif kind in ("set", "plus"):
            deeds.append((kind, source.choice(names), source.choice((0, 1, 1, 1, 2, 3, 999))))
    return deeds


def some_throw(source, counts, names):
    pool, weights = source.choice(POOLS)
    values = sorted(weights)
    rows = []
    while values:
        taken = source.randint(1, len(values))
        rows.append((values[0], values[taken - 1], some_deeds(source, counts, True), source.choice(names)))
        values = values[taken:]
    if source.random() < 0.3:
        rows.append((500, source.randint(500, 999), some_deeds(source, counts, True), source.choice(names)))
    source.shuffle(rows)
    return ("throw", list(pool), some_share(source), rows)


def some_pick(source, counts, names, shut):
    rows = []
    for word in source.sample(NAMES, source.choice((1, 2, 2, 3, 4))):
        rows.append((word, some_when(source, counts), some_deeds(source, counts, False), source.choice(names)))
    if not shut:
        rows[-1] = (rows[-1][0], None) + rows[-1][2:]
        source.shuffle(rows)
    return ("pick", source.choice((1, 2)), rows)


def some_game(source, counts=2, size=6, most=3, shut=True):
    """Any game; often it goes round for ever, and where shut is told it may come to picks without an open way."""
    counts = [(name, source.randint(1, most)) for name in source.sample(NAMES, counts)]
    names = source.sample(NAMES, size)
    places = []
    for number, name in enumerate(names):
        kind = source.choice(("end", "score", "throw", "throw", "throw", "pick", "pick", "pick", "ask")[2 * (number == 0):])
        what = ("end", some_share(source))
        if kind == "score" and counts:
            what = ("score", source.choice(counts)[0])
        elif kind == "throw":
            what = some_throw(source, counts, names)
        elif kind == "pick":
            what = some_pick(source, counts, names, shut)
        elif kind == "ask" and counts and number + 1 < size:
            behind = names[number + 1:]
            what = ("ask", source.choice(counts)[0], source.choice((0, 1, 2, 3)), source.choice(behind),
                    source.choice(behind))
        places.append((name, what))
    return (counts, places)


def done_deeds(game, numbers, deeds, value):
    """The counts' numbers, a dict by their names, behind the deeds."""
    most = dict(game[0])
    numbers = dict(numbers)
    for deed in deeds:
        changes = {}
        if deed[0] == "set":
            changes[deed[1]] = deed[2]
        elif deed[0] == "plus":
            changes[deed[1]] = numbers[deed[1]] + deed[2]
        elif deed[0] == "face":
            changes[deed[1]] = numbers[deed[1]] + value
        elif deed[0] == "move":
            changes[deed[2]] = numbers[deed[2]] + numbers[deed[1]]
            changes[deed[1]] = 0
        for name, number in changes.items():
            numbers[name] = number if number < most[name] else most[name]
    return numbers


def come_to(game, name, numbers):
    """Where asking leads: a tuple (name, tuple of the counts' numbers)."""
    what = dict(game[1])[name]
    if what[0] == "ask":
        return come_to(game, what[3] if numbers[what[1]] >= what[2] else what[4], numbers)
    return (name, tuple(numbers[count] for count, most in game[0]))


def start_of(game):
    return come_to(game, game[1][0][0], {name: 0 for name, most in game[0]})


def when_holds(when, numbers):
    return when is None or (when[0] in numbers and (numbers[when[0]] >= when[2]) == (when[1] == "from"))


def steps_of(game, state):
    """The ways of a state, a list of tuples (value or word, where it leads)."""
    what = dict(game[1])[state[0]]
    numbers = dict(zip([name for name, most in game[0]], state[1]))
    found = []
    if what[0] == "throw":
        values = [weights for pool, weights in POOLS if pool == what[1]][0]
        for value in sorted(values):
            row, = [row for row in what[3] if value in range(row[0], row[1] + 1)]
            found.append((value, come_to(game, row[3], done_deeds(game, numbers, row[2], value))))
    elif what[0] == "pick":
        for word, when, deeds, goal in what[2]:
            if when_holds(when, numbers):
                found.append((word, come_to(game, goal, done_deeds(game, numbers, deeds, None))))
    return found


def states_of(game):
    """All states that can come, in the order in which they are found: by the least lists of ways that lead there."""
    paths = {start_of(game): ()}
    fresh = [start_of(game)]
    while fresh:
        found = {}
        for state in fresh:
            for way, step in enumerate(steps_of(game, state)):
                if step[1] not in paths:
                    found.setdefault(step[1], []).append(paths[state] + (way,))
        # Lists of ways of one length are compared as they stand, each way being that of the place found there.
        for state in found:
            paths[state] = min(found[state])
        fresh = list(found)
    return sorted(paths, key=lambda state: (len(paths[state]), paths[state]))


def is_answered(asked, board):
    try:
        asked(board)
    except ValueError:
        return False
    return True


def some_rule(source, game, rows):
    """Rows that often fit the game's places, words and counts."""
    picks = [(name, row[0]) for name, what in game[1] if what[0] == "pick" for row in what[2]]
    rule = []
    for turn in range(rows):
        name, word = source.choice(picks) if picks and source.random() < 0.8 else source.sample(NAMES, 2)
        if source.random() < 0.1:
            word = source.choice(NAMES)
        when = some_when(source, game[0])
        rule.append((name, word, (source.choice(NAMES), "below", 999) if source.random() < 0.1 else when))
    return rule


def some_ending_games(source, number, spread, best):
    """Games whose boards are sure to end and are not too great, each with its board; there is something to pick."""
    found = []
    while len(found) < number:
        game = some_game(source, source.randint(0, 2), source.randint(3, 9), 3, False)
        if is_answered(spread, game):
            board = spread(game)[0]
            if any(place[0] == "pick" and len(place[2]) > 1 for place in board) and is_answered(best, board):
                found.append((game, board))
    return found


def turned_about(game):
    """The game with all pays and ends' worths turned about, and the persons changed; it has no scores."""
    places = []
    for name, what in game[1]:
        if what[0] == "end":
            what = ("end", as_share(-Fraction(*what[1])))
        elif what[0] == "throw":
            what = ("throw", what[1], as_share(-Fraction(*what[2])), what[3])
        elif what[0] == "pick":
            what = ("pick", 3 - what[1], what[2])
        places.append((name, what))
    return (game[0], places)
