import copy
import math
import random
import re
import unittest

from boards import NAMES, some_game

from pressluck.errors import NoGame, NoPool, TooMany
from pressluck.games import read_game, show_game
from pressluck.pools import pool_table
from pressluck.pooltexts import read_pool

PIG = """count turn 6
count bank 20
place more ask bank from 20 go won else choose
place choose pick 1
way roll go cast
way keep if turn from 1 move turn bank go more
place cast throw d6 pay -1/2
from 1 to 1 set turn 0 go more
from 2 to 6 face turn go more
place won score bank"""
PIG_GAME = (
    [("turn", 6), ("bank", 20)],
    [("more", ("ask", "bank", 20, "won", "choose")),
     ("choose", ("pick", 1, [("roll", None, [], "cast"), ("keep", ("turn", "from", 1), [("move", "turn", "bank")], "more")])),
     ("cast", ("throw", [("dice", 1, 6)], (-1, 2),
               [(1, 1, [("set", "turn", 0)], "more"), (2, 6, [("face", "turn")], "more")])),
     ("won", ("score", "bank"))],
)
# Names that are words of the rows, and a count and a place of one name.
WORDY = """count go 1
count from 60
count if 9
count set 3
place place throw best 2 of 3d6 + 1 pay 0
from 9 to 999 go end
from 0 to 3 face go go end
from 4 to 6 set set 0 plus from 999 move go from face if go go
from 7 to 8 move set go go place
place go pick 2
way go if go from 0 go go
way if if if below 999 set if 3 go if
way way if from below 1 plus go 1 go way
way set plus set 2 move if set go from
place if ask if from 0 go from else way
place from score from
place way score go
place end end -999999999999/1000000"""
WORDY_GAME = (
    [("go", 1), ("from", 60), ("if", 9), ("set", 3)],
    [("place", ("throw", [("best", 2, 3, 6), ("number", 1)], (0, 1), [
        (9, 999, [], "end"),
        (0, 3, [("face", "go")], "end"),
        (4, 6, [("set", "set", 0), ("plus", "from", 999), ("move", "go", "from"), ("face", "if")], "go"),
        (7, 8, [("move", "set", "go")], "place")])),
     ("go", ("pick", 2, [
         ("go", ("go", "from", 0), [], "go"),
         ("if", ("if", "below", 999), [("set", "if", 3)], "if"),
         ("way", ("from", "below", 1), [("plus", "go", 1)], "way"),
         ("set", None, [("plus", "set", 2), ("move", "if", "set")], "from")])),
     ("if", ("ask", "if", 0, "from", "way")),
     ("from", ("score", "from")),
     ("way", ("score", "go")),
     ("end", ("end", (-999999999999, 1000000)))],
)
SMALL = """count c 2
place a throw 7 pay 1/3
from 7 to 7 go b
place b pick 1
way w if c from 1 set c 0 go z
way x plus c 1 go a
place z end 5"""
NAME = "[a-z]{1,8}"
NUMBER = "(?:0|[1-9][0-9]{0,2})"
SHARE = "(?:0|-?[1-9][0-9]{0,11})(?:/[1-9][0-9]{0,11})?"
DEED = f"(?: set {NAME} {NUMBER}| plus {NAME} {NUMBER}| face {NAME}| move {NAME} {NAME})"
ROWS = {
    "count": f"count ({NAME}) ({NUMBER})",
    "end": f"place ({NAME}) end ({SHARE})",
    "score": f"place ({NAME}) score ({NAME})",
    "throw": f"place ({NAME}) throw ([^\n]+) pay ({SHARE})",
    "pick": f"place ({NAME}) pick ([12])",
    "ask": f"place ({NAME}) ask ({NAME}) from ({NUMBER}) go ({NAME}) else ({NAME})",
    "from": f"from ({NUMBER}) to ({NUMBER})({DEED}*) go ({NAME})",
    "way": f"way ({NAME})(?: if ({NAME}) (from|below) ({NUMBER}))?({DEED}*) go ({NAME})",
}


def second_deeds(text):
    found = []
    while text:
        words = re.match(DEED, text).group().split()
        text = text[len(" ".join(words)) + 1:]
        found.append(tuple(int(word) if word[0] in "0123456789" else word for word in words))
    return found


def second_share(text):
    top, bottom = (text.split("/") + ["1"])[:2]
    if ("/" in text and int(bottom) < 2) or math.gcd(int(top), int(bottom)) > 1 or int(bottom) > 1000000:
        raise ValueError(text)
    return (int(top), int(bottom))


def second_pool(text, rows):
    pool = read_pool(text)
    for value, share in pool_table(pool):
        if len([row for row in rows if value in range(row[0], row[1] + 1)]) != 1:
            raise ValueError(text)
    return pool


def second_rows(kind, found):
    if kind == "from":
        return (int(found[1]), int(found[2]), second_deeds(found[3]), found[4])
    when = (found[2], found[3], int(found[4])) if found[2] else None
    return (found[1], when, second_deeds(found[5]), found[6])


def second_what(kind, found, rows):
    if kind == "throw":
        return ("throw", second_pool(found[2], rows), second_share(found[3]), rows)
    if kind == "pick":
        return ("pick", int(found[2]), rows)
    if rows:
        raise ValueError(rows)
    if kind == "end":
        return ("end", second_share(found[2]))
    if kind == "score":
        return ("score", found[2])
    return ("ask", found[2], int(found[3]), found[4], found[5])


def keeps_to_bounds(game):
    counts, places = game
    names = [name for name, what in places]
    if len(counts) > 4 or not 1 <= len(places) <= 30 or not all(1 <= most <= 60 for name, most in counts):
        return False
    known = {name for name, most in counts}
    if len(known) != len(counts) or len(set(names)) != len(names):
        return False
    for number, (name, what) in enumerate(places):
        rows = what[-1] if what[0] in ("throw", "pick") else []
        if what[0] in ("score", "ask") and what[1] not in known:
            return False
        if what[0] == "ask" and not {what[3], what[4]} <= set(names[number + 1:]):
            return False
        if what[0] == "throw" and not (1 <= len(rows) <= 60 and all(row[0] <= row[1] for row in rows)):
            return False
        if what[0] == "pick" and not (1 <= len(rows) <= 4 and len({row[0] for row in rows}) == len(rows)):
            return False
        for row in rows:
            if row[3] not in names or len(row[2]) > 6:
                return False
            if what[0] == "pick" and row[1] and row[1][0] not in known:
                return False
            for deed in row[2]:
                if deed[1] not in known or (deed[0] == "face" and what[0] == "pick"):
                    return False
                if deed[0] == "move" and (deed[2] not in known or deed[1] == deed[2]):
                    return False
    return True


def second_game(text):
    """The game that a text writes, by forms of rows and then by the bounds; None where it writes none."""
    counts = []
    places = []
    for row in text.split("\n"):
        found = [(kind, re.fullmatch(form, row, re.ASCII)) for kind, form in ROWS.items()]
        found = [(kind, match) for kind, match in found if match]
        if len(found) != 1:
            return None
        kind, match = found[0]
        if kind == "count" and not places:
            counts.append((match[1], int(match[2])))
        elif kind in ("end", "score", "throw", "pick", "ask"):
            places.append((kind, match, []))
        elif places and (places[-1][0], kind) in (("throw", "from"), ("pick", "way")):
            places[-1][2].append(second_rows(kind, match))
        else:
            return None
    try:
        game = (counts, [(match[1], second_what(kind, match, rows)) for kind, match, rows in places])
    except (ValueError, NoPool, TooMany):
        return None
    return game if keeps_to_bounds(game) else None


def ends(count):
    """So many places, as rows."""
    return [f"place {'abcdefghijklmnopqrstuvwxyzabcdefgh'[number] * (1 + number // 26)} end 0" for number in range(count)]


class GameCase(unittest.TestCase):
    def assert_refused(self, thing):
        with self.subTest(repr(thing)), self.assertRaises(NoGame):
            read_game(thing)

    def assert_read(self, text, game=None):
        told = read_game(text)
        self.assertEqual(told, second_game(text))
        if game is not None:
            self.assertEqual(told, game)
        self.assertEqual(show_game(told), text)
        self.assertEqual([type(told), type(told[0]), type(told[1])], [tuple, list, list])
        return told

    def assert_as_the_second_reader(self, text):
        game = second_game(text)
        if game is None:
            self.assert_refused(text)
        else:
            self.assert_read(text, game)
        return game is not None


class TestWritten(GameCase):
    def test_named_ones(self):
        self.assert_read(PIG, PIG_GAME)
        self.assert_read(WORDY, WORDY_GAME)
        self.assert_read("place end end 0", ([], [("end", ("end", (0, 1)))]))
        self.assert_read("place a end -1/2", ([], [("a", ("end", (-1, 2)))]))
        self.assert_read(SMALL)

    def test_the_kinds_of_all_within(self):
        for name, what in self.assert_read(WORDY)[1]:
            self.assertEqual((type(name), type(what)), (str, tuple))
            for row in what[-1] if what[0] in ("throw", "pick") else []:
                self.assertEqual((type(row), type(row[2])), (tuple, list))
                self.assertEqual({type(deed) for deed in row[2]} | {tuple}, {tuple})

    def test_no_counts_and_four_one_place_and_thirty(self):
        for counts in range(5):
            for places in (1, 2, 29, 30):
                rows = [f"count {name} {number + 1}" for number, name in enumerate("abcd"[:counts])]
                game = self.assert_read("\n".join(rows + ends(places)))
                self.assertEqual((len(game[0]), len(game[1])), (counts, places))

    def test_each_form_of_deed_and_six_of_them(self):
        head = "count a 1\ncount b 2\nplace x throw d6 pay 0\nfrom 1 to 6 "
        for deeds in ("set a 0", "plus b 999", "face a", "move a b", "face b face b", "set a 1 set a 1 set a 1",
                      "move a b move b a move a b move b a move a b move b a", "face a face a face a face a face a face b"):
            game = self.assert_read(head + deeds + " go x")
            self.assertEqual(" ".join(str(word) for deed in game[1][0][1][3][0][2] for word in deed), deeds)

    def test_rows_of_throws_in_any_order_and_rows_that_hold_no_value(self):
        for rows in (["from 1 to 2 go x", "from 3 to 6 go x"], ["from 3 to 6 go x", "from 1 to 2 go x"],
                     ["from 0 to 0 go x", "from 1 to 6 go x", "from 7 to 999 go x"],
                     ["from 7 to 7 go x", "from 1 to 6 go x"],
                     ["from 7 to 7 go x", "from 7 to 8 go x", "from 0 to 6 go x"], ["from 0 to 999 go x"],
                     [f"from {value} to {value} go x" for value in (6, 2, 4, 1, 3, 5)]):
            self.assert_read("\n".join(["place x throw d6 pay 0"] + rows))

    def test_sixty_rows_of_a_throw_and_four_of_a_pick(self):
        rows = [f"from {value} to {value} go x" for value in range(60)]
        self.assert_read("\n".join(["place x throw 3d6 pay 0"] + rows))
        self.assert_read("place x pick 1\nway a go x\nway b go x\nway c go x\nway d go x")
        self.assert_read("place x pick 2\nway a go x")

    def test_numbers_at_both_ends_of_their_bounds(self):
        for most in (1, 9, 10, 60):
            self.assert_read(f"count c {most}\nplace x score c")
        for number in (0, 1, 999):
            self.assert_read(f"count c 1\nplace x ask c from {number} go y else y\nplace y end 0")
            self.assert_read(f"count c 1\nplace x pick 1\nway w if c from {number} set c {number} plus c {number} go x")
            self.assert_read(f"count c 1\nplace x pick 1\nway w if c below {number} go x")
            self.assert_read(f"place x throw d6 pay 0\nfrom 0 to 10 go x\nfrom {max(number, 11)} to 999 go x")
        for share in ("0", "-1", "999999999999", "-999999999999", "1/2", "999999999999/1000000", "-1/1000000", "-7/3"):
            self.assert_read(f"place x end {share}")
            self.assert_read(f"place x throw 0 pay {share}\nfrom 0 to 0 go x")

    def test_ways_back_to_the_own_place_and_asks_of_one_goal(self):
        self.assert_read("place x throw 0 pay 0\nfrom 0 to 0 go x")
        self.assert_read("count c 1\nplace x ask c from 1 go y else z\nplace y ask c from 1 go z else z\nplace z end 0")

    def test_names_of_one_to_eight_letters(self):
        for name in ("a", "z", "abcdefgh", "zzzzzzzz"):
            self.assert_read(f"count {name} 1\nplace {name} pick 1\nway {name} if {name} from 1 set {name} 1 go {name}")

    def test_each_name_as_a_count_as_a_place_and_as_a_word(self):
        for name in NAMES + ["d", "pay", "x"]:
            self.assert_read(f"count {name} 9\ncount other 9\nplace {name} pick 2\nway {name} go {name}\n"
                             f"way w if {name} below 3 set {name} 1 plus {name} 2 move {name} other move other {name} "
                             f"go {name}\nplace q throw d2 + d2 pay 1\nfrom 2 to 4 face {name} face {name} go {name}\n"
                             f"place r ask {name} from 3 go s else s\nplace s score {name}")

    def test_pools_of_all_forms(self):
        for pool in ("7", "d6", "3d6", "best 2 of 3d6", "worst 1 of d8", "hits 5 of 4d6", "again 2 of d6", "burst 3 of d6",
                     "d6 + 7", "best 1 of 2d6 + worst 1 of 2d4 + 3", "0 + 0 + 0 + 0", "4d6", "burst 6 of d7", "2d20 + d3"):
            self.assert_read(f"place x throw {pool} pay 0\nfrom 0 to 999 go x")

    def test_many_games_are_written_and_read_back(self):
        source = random.Random(211)
        for turn in range(300):
            game = some_game(source, source.randint(0, 4), source.randint(1, 12), source.choice((2, 6)))
            kept = copy.deepcopy(game)
            text = show_game(game)
            self.assertEqual(game, kept)
            self.assert_read(text, game)


class TestBoundsBrokenByOne(GameCase):
    def test_counts(self):
        for row in ("count c 0", "count c 61", "count c 100", "count c -1", "count c", "count c 1 1", "count 1 c",
                    "count abcdefghi 1", "count  1", "count C 1", "count c1 1", "count c 01", "count c x", "counts c 1"):
            self.assert_refused(row + "\nplace x end 0")
        self.assert_refused("\n".join([f"count {name} 1" for name in "abcde"] + ["place x end 0"]))
        self.assert_refused("count c 1\ncount c 2\nplace x end 0")
        self.assert_refused("count c 1\ncount d 1\ncount c 1\nplace x end 0")

    def test_places(self):
        self.assert_refused("\n".join(ends(31)))
        self.assert_refused("count c 1")
        self.assert_refused("place x end 0\nplace x end 0")
        self.assert_refused("place x end 0\nplace y end 0\nplace x end 1")
        for name in ("", "abcdefghi", "X", "x1", "1", "x-y", "x_y", "\xe9", "xy\u0131"):
            self.assert_refused(f"place {name} end 0")

    def test_counts_behind_a_place(self):
        self.assert_refused("place x end 0\ncount c 1")
        self.assert_refused("count c 1\nplace x end 0\ncount d 1\nplace y end 0")
        self.assert_refused("place x pick 1\nway w go x\ncount c 1")
        self.assert_refused("place x throw 0 pay 0\nfrom 0 to 0 go x\ncount c 1")

    def test_rows_where_none_are_due(self):
        for head in ("place x end 0", "count c 1\nplace x score c", "count c 1\nplace x ask c from 1 go y else y\nplace y end 0"):
            for row in ("way w go x", "from 0 to 0 go x", "x", "end"):
                self.assert_refused(head + "\n" + row)
        self.assert_refused("way w go x\nplace x pick 1\nway w go x")
        self.assert_refused("from 0 to 0 go x\nplace x throw 0 pay 0\nfrom 0 to 0 go x")
        self.assert_refused("place x throw 0 pay 0\nway w go x")
        self.assert_refused("place x pick 1\nfrom 0 to 0 go x")
        self.assert_refused("place x pick 1\nway w go x\nfrom 0 to 0 go x")
        self.assert_refused("place x throw 0 pay 0\nfrom 0 to 0 go x\nway w go x")

    def test_the_number_of_rows(self):
        self.assert_refused("place x pick 1")
        self.assert_refused("place x throw 0 pay 0")
        self.assert_refused("place x pick 1\nplace y end 0")
        self.assert_refused("place x pick 1\n" + "\n".join(f"way {word} go x" for word in "abcde"))
        rows = [f"from {value} to {value} go x" for value in range(61)]
        self.assert_refused("\n".join(["place x throw 3d6 pay 0"] + rows))

    def test_numbers_of_rows(self):
        for low, high in ((0, 1000), (5, 4), (1000, 1000), (-1, 9), ("", 9), ("00", 9), ("0", "09"), ("0", "x"), ("a", 9)):
            self.assert_refused(f"place x throw 0 pay 0\nfrom 0 to 0 go x\nfrom {low} to {high} go x")
            self.assert_refused(f"place x throw 4 pay 0\nfrom {low} to {high} go x")
        for number in ("1000", "-1", "01", "00", "", "x", "1/2", "999999999999", "9" * 3000):
            self.assert_refused(f"count c 1\nplace x ask c from {number} go y else y\nplace y end 0")
            for deeds in (f"set c {number}", f"plus c {number}", f"set c 1 plus c {number}"):
                self.assert_refused(f"count c 1\nplace x pick 1\nway w {deeds} go x")
                self.assert_refused(f"count c 1\nplace x throw 0 pay 0\nfrom 0 to 0 {deeds} go x")
            for kind in ("from", "below"):
                self.assert_refused(f"count c 1\nplace x pick 1\nway w if c {kind} {number} go x")

    def test_shares_beyond_the_bounds(self):
        for share in ("1/1000001", "-1/999999999999", "1000000000000", "-1000000000000", "1000000000000/3", "2/4", "-0",
                      "1/1", "0/1", "01", "1/02", "1/0", "1/-2", "+1", "", "x", "1.5", "1/2/3", "1 /2"):
            self.assert_refused(f"place x end {share}")
            self.assert_refused(f"place x throw 0 pay {share}\nfrom 0 to 0 go x")

    def test_persons(self):
        for who in ("0", "3", "01", "12", "one", "", "-1", "1 1", "1 2"):
            self.assert_refused(f"place x pick {who}\nway w go x")

    def test_values_in_no_row_or_in_two(self):
        for rows in (["1 5"], ["2 6"], ["1 2", "4 6"], ["1 6", "6 6"], ["1 6", "1 1"], ["1 3", "3 6"], ["1 6", "0 999"],
                     ["0 0", "7 9"], ["1 6", "1 6"], ["6 6", "1 4"]):
            told = [f"from {row.split()[0]} to {row.split()[1]} go x" for row in rows]
            self.assert_refused("\n".join(["place x throw d6 pay 0"] + told))
        self.assert_refused("place x throw hits 20 of d6 pay 0\nfrom 1 to 9 go x")
        self.assert_refused("place x throw d6 + 7 pay 0\nfrom 1 to 12 go x")

    def test_gaps_between_values_may_lie_in_none_or_two(self):
        # The values are 1, 2 and 4 to 6.
        self.assert_read("place x throw burst 1 of d3 pay 0\nfrom 0 to 2 go x\nfrom 4 to 6 go x")
        self.assert_read("place x throw burst 1 of d3 pay 0\nfrom 0 to 3 go x\nfrom 3 to 6 go x\nfrom 3 to 3 go x")
        self.assert_refused("place x throw burst 1 of d3 pay 0\nfrom 0 to 4 go x\nfrom 4 to 6 go x")

    def test_pools_that_are_refused(self):
        for pool in ("5d6", "6d20", "burst 5 of d20", "2d20 + 2d6", "3d20", "burst 6 of d8", "4d6 + d2", "1d6", "d21", "x",
                     "", "d6 +", "d6  + 1", "d6+1", "100", "7d6", "best 3 of 2d6", "d6 pay 0"):
            self.assert_refused(f"place x throw {pool} pay 0\nfrom 0 to 999 go x")
        self.assert_refused("place x throw pay 0\nfrom 0 to 999 go x")

    def test_a_goal_or_a_count_that_is_not_there(self):
        for row in ("from 0 to 0 go y", "from 0 to 0 set d 1 go x", "from 0 to 0 plus x 1 go x", "from 0 to 0 face d go x",
                    "from 0 to 0 move c d go x", "from 0 to 0 move d c go x", "from 0 to 0 go c"):
            self.assert_refused(f"count c 1\nplace x throw 0 pay 0\n{row}")
        for row in ("way w go y", "way w go w", "way w go c", "way w if d from 1 go x", "way w if x below 1 go x",
                    "way w set d 1 go x", "way w move c w go x"):
            self.assert_refused(f"count c 1\nplace x pick 1\n{row}")
        self.assert_refused("count c 1\nplace x score d")
        self.assert_refused("place x score x")
        self.assert_refused("count c 1\nplace x ask d from 1 go y else y\nplace y end 0")
        self.assert_refused("count c 1\nplace x ask c from 1 go z else y\nplace y end 0")
        self.assert_refused("count c 1\nplace x ask c from 1 go y else z\nplace y end 0")

    def test_words_twice(self):
        self.assert_refused("place x pick 1\nway w go x\nway w go x")
        self.assert_refused("count c 1\nplace x pick 1\nway w if c from 1 go x\nway v go x\nway w if c below 1 go x")
        self.assert_read("place x pick 1\nway w go x\nplace y pick 1\nway w go x")

    def test_an_ask_whose_goals_do_not_stand_behind_it(self):
        for goal, other in (("x", "y"), ("y", "x"), ("w", "y"), ("y", "w"), ("x", "x"), ("w", "x")):
            self.assert_refused(f"count c 1\nplace w end 0\nplace x ask c from 1 go {goal} else {other}\nplace y end 0")
        self.assert_read("count c 1\nplace w end 0\nplace x ask c from 1 go y else z\nplace y end 0\nplace z end 0")

    def test_deeds_that_are_none(self):
        for deeds in ("face c", "set c 1 face c", "move c c", "move c", "set c", "plus 1 c", "set 1", "add c 1", "set c 1 1",
                      "set c 1 plus", "move c d c", "go", "set c x", "face", " ".join(["set c 1"] * 7)):
            self.assert_refused(f"count c 1\ncount d 1\nplace x pick 1\nway w {deeds} go x")
        for deeds in ("face", "face c c", "face 1", "move c c", "face c 1", " ".join(["face c"] * 7),
                      "move c d " * 6 + "face c"):
            self.assert_refused(f"count c 1\ncount d 1\nplace x throw 0 pay 0\nfrom 0 to 0 {deeds} go x")

    def test_rows_that_lack_words(self):
        for row in ("way", "way w", "way go", "way go x", "way w x", "way w go", "way w if", "way w if x",
                    "way w if go x", "way w if c go x", "way w if c from go x", "way w if c from 1", "way if c from 1 go x"):
            self.assert_refused(f"count c 1\nplace x pick 1\n{row}")
        self.assert_read("place x pick 1\nway if go x")
        for row in ("from", "from 0", "from 0 to", "from 0 to 0", "from 0 to 0 go", "from 0 to go x", "from 0 0 go x",
                    "from to 0 go x", "0 to 0 go x", "from 0 to 0 x", "go x"):
            self.assert_refused(f"place x throw 0 pay 0\n{row}")

    def test_whens_that_are_none(self):
        for when in ("if", "if c", "if c from", "if c to 1", "if from 1", "if c below", "if c 1", "if c from 1 2",
                     "if c from 1 if c from 1", "when c from 1", "if c from 1 below 2", "c from 1", "if c is 1"):
            self.assert_refused(f"count c 1\nplace x pick 1\nway w {when} go x")
        self.assert_refused("count c 1\nplace x pick 1\nway w set c 1 if c from 1 go x")
        self.assert_refused("count c 1\nplace x throw 0 pay 0\nfrom 0 to 0 if c from 1 go x")


class TestSigns(GameCase):
    def test_signs_left_out_put_in_and_changed_anywhere(self):
        good = 0
        for text in (SMALL, "count go 3\nplace if ask go from 2 go x else y\nplace x score go\nplace y end -1/2",
                     "count a 9\nplace x throw d6 + 7 pay 0\nfrom 8 to 10 face a go x\nfrom 11 to 13 go x"):
            for place in range(len(text) + 1):
                changed = [text[:place] + text[place + 1:]]
                for sign in "0129agowcz \n/-":
                    changed.extend([text[:place] + sign + text[place + 1:], text[:place] + sign + text[place:]])
                for other in changed:
                    good += self.assert_as_the_second_reader(other)
        self.assertGreater(good, 100)

    def test_blanks_and_line_ends_more_or_fewer(self):
        for text in (PIG, WORDY):
            for place in range(len(text) + 1):
                for sign in " \n":
                    self.assert_refused(text[:place] + sign + text[place:])
                if text[place:place + 1] in (" ", "\n"):
                    self.assert_refused(text[:place] + text[place + 1:])
            for blank in ("\t", "\r\n", "\r", "\v", "\f", "\xa0", "\u2028", "\x85"):
                self.assert_refused(text.replace("\n", blank))
                self.assert_refused(text.replace("\n", blank, 1))
                self.assert_refused(text.replace(" ", blank, 1))
                self.assert_refused(text + blank)

    def test_words_left_out_doubled_and_changed(self):
        for text in (PIG, SMALL):
            rows = text.split("\n")
            for number, row in enumerate(rows):
                words = row.split(" ")
                for spot in range(len(words)):
                    changed = [words[:spot] + words[spot + 1:], words[:spot] + [words[spot]] * 2 + words[spot + 1:]]
                    for other in ("go", "if", "from", "0", "1", "c", "x", "turn", "more", "end", "place", "set", "face"):
                        changed.append(words[:spot] + [other] + words[spot + 1:])
                    for told in changed:
                        self.assert_as_the_second_reader("\n".join(rows[:number] + [" ".join(told)] + rows[number + 1:]))

    def test_rows_left_out_doubled_and_changed_about(self):
        for text in (PIG, WORDY, SMALL):
            rows = text.split("\n")
            for number in range(len(rows)):
                self.assert_as_the_second_reader("\n".join(rows[:number] + rows[number + 1:]))
                self.assert_as_the_second_reader("\n".join(rows[:number] + [rows[number]] * 2 + rows[number + 1:]))
                for other in range(number):
                    turned = list(rows)
                    turned[number], turned[other] = rows[other], rows[number]
                    self.assert_as_the_second_reader("\n".join(turned))

    def test_great_letters(self):
        for text in (PIG, SMALL):
            for place, sign in enumerate(text):
                if sign.isalpha():
                    self.assert_refused(text[:place] + sign.upper() + text[place + 1:])

    def test_a_nought_ahead_of_each_number(self):
        for text in (PIG, SMALL, WORDY):
            for found in re.finditer("[0-9]+", text):
                self.assert_refused(text[:found.start()] + "0" + text[found.start():])

    def test_figures_and_letters_that_are_not_plain(self):
        for figure in "\u0661\u00b9\u2460\u0967\uff11":
            for text in (PIG, SMALL):
                for found in re.finditer("1", text):
                    self.assert_refused(text[:found.start()] + figure + text[found.end():])
        for letter in "\u0430\xe4\u0131\uff41\u017f":
            self.assert_refused(f"place {letter} end 0")
            self.assert_refused(f"count {letter} 1\nplace x end 0")
            self.assert_refused(f"place x pick 1\nway {letter} go x")

    def test_the_text_without_signs_and_nearly_so(self):
        for text in ("", " ", "\n", "\n\n", "place", "place ", "place x", "place x end", "place x end ", "count", "x", "0",
                     "place x pick", "place x throw", "place x throw pay", "place x ask", "place x score", "place x go 1"):
            self.assert_refused(text)

    def test_things_that_are_no_text(self):
        for thing in (None, True, False, 0, 7, 1.5, b"place x end 0", [], ["place x end 0"], ("place x end 0",), {},
                      PIG_GAME, PIG.split("\n"), str):
            self.assert_refused(thing)

    def test_behind_a_refusal_all_is_as_it_was(self):
        for turn in range(2):
            self.assert_refused("place x end 2/4")
            self.assert_read(PIG, PIG_GAME)


class TestApart(GameCase):
    def test_what_is_handed_in_is_as_it_was(self):
        for game in (PIG_GAME, WORDY_GAME):
            kept = copy.deepcopy(game)
            show_game(game)
            self.assertEqual(game, kept)

    def test_a_change_of_what_was_told_changes_nothing_told_otherwise(self):
        first = read_game(WORDY)
        second = read_game(WORDY)
        first[0].clear()
        first[1][0][1][1].clear()
        first[1][0][1][3][2][2].clear()
        first[1][0][1][3].clear()
        first[1][1][1][2][1][2].append(("face", "go"))
        first[1].reverse()
        self.assertEqual(second, WORDY_GAME)
        self.assertEqual(read_game(WORDY), WORDY_GAME)

    def test_a_change_of_the_handed_in_game_changes_nothing_told(self):
        game = copy.deepcopy(PIG_GAME)
        text = show_game(game)
        game[0].clear()
        game[1].pop()
        self.assertEqual(text, PIG)


if __name__ == "__main__":
    unittest.main()
