import copy
import random
import re
import unittest

from boards import some_game, some_rule, when_holds

from pressluck.ends import ring
from pressluck.errors import NoRule, NoWay, TooMany
from pressluck.games import read_game
from pressluck.rules import picks_by, read_rule, show_rule
from pressluck.spread import spread

WRITTEN = [
    ("", []),
    ("a b", [("a", "b", None)]),
    ("choose keep if turn from 4", [("choose", "keep", ("turn", "from", 4))]),
    ("choose keep if turn below 999", [("choose", "keep", ("turn", "below", 999))]),
    ("a b if c from 0\na b\nc d if e below 0",
     [("a", "b", ("c", "from", 0)), ("a", "b", None), ("c", "d", ("e", "below", 0))]),
    ("if if if if from 1", [("if", "if", ("if", "from", 1))]),
    ("from below if below below 7", [("from", "below", ("below", "below", 7))]),
    ("abcdefgh zzzzzzzz if zzzzzzzz from 10", [("abcdefgh", "zzzzzzzz", ("zzzzzzzz", "from", 10))]),
]
# A pick for each number of c and d, from 0 to 2.
WIDE = """count c 2
count d 2
place x pick 1
way p plus c 1 go x
way q if c from 1 plus d 1 go y
way r if d below 2 set c 0 plus d 1 go x
place y pick 2
way p go x
way z go e
place e end 0"""


def second_rule(text):
    """The rule that a text writes; None where it writes none."""
    form = "([a-z]{1,8}) ([a-z]{1,8})(?: if ([a-z]{1,8}) (from|below) (0|[1-9][0-9]{0,2}))?"
    rows = text.split("\n") if text else []
    found = [re.fullmatch(form, row, re.ASCII) for row in rows]
    if len(rows) > 30 or not all(found):
        return None
    return [(row[1], row[2], (row[3], row[4], int(row[5])) if row[3] else None) for row in found]


def second_picks(game, rule):
    board, states, words = spread(game)
    counts = [name for name, most in game[0]]
    picks = []
    for place, (name, numbers), said in zip(board, states, words):
        fitting = [said.index(word) for row, word, when in rule
                   if row == name and word in said and when_holds(when, dict(zip(counts, numbers)))]
        picks.append((fitting + [0])[0] if place[0] == "pick" else None)
    return picks


class RuleCase(unittest.TestCase):
    def assert_refused(self, thing):
        with self.subTest(repr(thing)), self.assertRaises(NoRule):
            read_rule(thing)

    def assert_as_the_second_reader(self, text):
        rule = second_rule(text)
        if rule is None:
            self.assert_refused(text)
        else:
            self.assertEqual(read_rule(text), rule)
            self.assertEqual(show_rule(rule), text)
        return rule is not None


class TestWritten(RuleCase):
    def test_named_ones(self):
        for text, rule in WRITTEN:
            with self.subTest(text):
                self.assertEqual(read_rule(text), rule)
                self.assertEqual(show_rule(rule), text)
                self.assertIs(type(read_rule(text)), list)
                for row in read_rule(text):
                    self.assertIs(type(row), tuple)

    def test_thirty_rows_and_fewer(self):
        for size in (1, 2, 29, 30):
            for row in ("a b", "a b if c from 1"):
                text = "\n".join([row] * size)
                self.assertEqual(len(read_rule(text)), size)
                self.assertEqual(show_rule(read_rule(text)), text)

    def test_many_rules_are_written_and_read_back(self):
        source = random.Random(231)
        for turn in range(200):
            game = some_game(source, source.randint(0, 3))
            rule = some_rule(source, game, source.randint(0, 30))
            text = show_rule(rule)
            self.assertEqual(second_rule(text), rule)
            self.assertEqual(read_rule(text), rule)


class TestRefused(RuleCase):
    def test_thirty_one_rows(self):
        self.assert_refused("\n".join(["a b"] * 31))
        self.assert_refused("\n".join(["a b if c from 1"] * 31))
        self.assert_refused("\n".join(["a b"] * 100))

    def test_blanks_and_line_ends(self):
        for text, rule in WRITTEN[1:]:
            for place in range(len(text) + 1):
                self.assert_refused(text[:place] + "\n" + text[place:] if place in (0, len(text)) else
                                    text[:place] + "  " + text[place:])
                for blank in ("\t", "\r", "\xa0", "\v", "\u2028"):
                    self.assert_refused(text[:place] + blank + text[place:])
            for place in (0, len(text)):
                self.assert_refused(text[:place] + " " + text[place:])
            self.assert_refused(text.replace(" ", "  "))
            self.assert_refused(text.replace(" ", "", 1) if text.count(" ") == 1 else text.replace(" ", "\n"))
        for text in (" ", "\n", "\n\n", "a b\n", "\na b", "a b\n\na b", "a b\r\na b", "a b\ra b", "a b;a b"):
            self.assert_refused(text)

    def test_numbers(self):
        for number in ("1000", "-1", "01", "00", "x", "", "1.0", "+1", "1/2", "\u0661", "\u00b2", "9" * 3000):
            self.assert_refused(f"a b if c from {number}")
            self.assert_refused(f"a b if c below {number}")

    def test_names(self):
        for name in ("abcdefghi", "A", "a1", "1", "a-b", "\xe9", "\u0430", "a_b", ""):
            for text in (f"{name} b", f"a {name}", f"a b if {name} from 1", f"{name} b if c from 1", f"a {name} if c from 1"):
                self.assert_refused(text)

    def test_words_left_out_doubled_and_changed(self):
        for text in ("a b", "a b if c from 1", "if if if if from 1", "from from if below below 20"):
            words = text.split(" ")
            for spot in range(len(words)):
                changed = [words[:spot] + words[spot + 1:], words[:spot] + [words[spot]] * 2 + words[spot + 1:]]
                changed.extend(words[:spot] + [other] + words[spot + 1:]
                               for other in ("if", "from", "below", "1", "a", "to", "else", "A", "0", "999", "1000"))
                for told in changed:
                    self.assert_as_the_second_reader(" ".join(told))

    def test_signs_left_out_put_in_and_changed_anywhere(self):
        good = 0
        for text in ("a b if c from 10\nkeep on", "if from if from below 0"):
            for place in range(len(text) + 1):
                changed = [text[:place] + text[place + 1:]]
                for sign in "019abfirom \nAZ-":
                    changed.extend([text[:place] + sign + text[place + 1:], text[:place] + sign + text[place:]])
                for other in changed:
                    good += self.assert_as_the_second_reader(other)
        self.assertGreater(good, 100)

    def test_things_that_are_no_text(self):
        for thing in (None, True, False, 0, 7, 1.5, b"", b"a b", [], ["a b"], ("a", "b", None), [("a", "b", None)], {}, str):
            self.assert_refused(thing)

    def test_behind_a_refusal_all_is_as_it_was(self):
        for turn in range(2):
            self.assert_refused("a")
            self.assertEqual(read_rule("a b"), [("a", "b", None)])


class TestPicks(RuleCase):
    def assert_words(self, text, rule, due):
        """What is picked, by words, as due tells of states; all other picks are the first open way."""
        game = read_game(text)
        board, states, words = spread(game)
        picks = picks_by(game, read_rule(rule))
        self.assertIs(type(picks), list)
        self.assertEqual(len(picks), len(board))
        for place, state, said, pick in zip(board, states, words, picks):
            if place[0] != "pick":
                self.assertIsNone(pick)
            else:
                shown = " ".join([state[0]] + [str(number) for number in state[1]])
                self.assertEqual(said[pick], due.get(shown, said[0]), shown)

    def test_no_rows_pick_the_first_open_way(self):
        self.assert_words(WIDE, "", {})
        self.assert_words("count c 1\nplace x pick 1\nway a if c from 1 go x\nway b go x", "", {"x 0": "b"})

    def test_by_name(self):
        self.assert_words(WIDE, "y z", {f"y {c} {d}": "z" for c in range(3) for d in range(3)})
        self.assert_words(WIDE, "e z\nz z\nc p", {})

    def test_by_when(self):
        self.assert_words(WIDE, "y z if c from 2", {f"y 2 {d}": "z" for d in range(3)})
        self.assert_words(WIDE, "y z if d below 2", {f"y {c} {d}": "z" for c in range(3) for d in range(2)})
        self.assert_words(WIDE, "y z if d below 0", {})
        self.assert_words(WIDE, "y z if d from 0", {f"y {c} {d}": "z" for c in range(3) for d in range(3)})
        self.assert_words(WIDE, "y z if d from 3", {})

    def test_by_a_word_that_is_open(self):
        self.assert_words(WIDE, "x q", {f"x {c} {d}": "q" for c in (1, 2) for d in range(3)})
        self.assert_words(WIDE, "x q\nx r", {f"x {c} {d}": "q" if c else "r" for c in range(3) for d in range(3)
                                             if c or d < 2})
        self.assert_words(WIDE, "x none\nx s\nx z", {})

    def test_the_first_row_that_fits(self):
        self.assert_words(WIDE, "y p\ny z", {})
        self.assert_words(WIDE, "y z\ny p", {f"y {c} {d}": "z" for c in range(3) for d in range(3)})
        self.assert_words(WIDE, "y p if c from 2\ny z", {f"y {c} {d}": "z" for c in range(2) for d in range(3)})
        self.assert_words(WIDE, "y q\nx z\ny z if c from 9\ny z if d from 1\ny p",
                          {f"y {c} {d}": "z" for c in range(3) for d in (1, 2)})

    def test_counts_that_the_game_does_not_have(self):
        for when in ("e from 0", "e below 999", "x from 0", "y below 1", "if below 999"):
            self.assert_words(WIDE, f"y z if {when}", {})
        self.assert_words("place y pick 1\nway p go y\nway z go y", "y z if c from 0", {})
        self.assert_words("place y pick 1\nway p go y\nway z go y", "y z if c below 999\ny z", {"y": "z"})

    def test_both_persons(self):
        text = "place x pick 1\nway a go y\nway b go y\nplace y pick 2\nway a go x\nway b go x"
        self.assert_words(text, "x b\ny b", {"x": "b", "y": "b"})

    def test_a_place_behind_asking_goes_by_its_own_name(self):
        text = "count c 1\nplace a ask c from 1 go x else x\nplace x pick 1\nway p go e\nway q go e\nplace e end 0"
        self.assert_words(text, "a q", {})
        self.assert_words(text, "x q", {"x 0": "q"})

    def test_boards_with_a_ring(self):
        game = read_game("place x pick 1\nway a go x\nway b go x")
        self.assertEqual(ring(spread(game)[0]), [0])
        self.assertEqual(picks_by(game, [("x", "b", None)]), [1])
        self.assertEqual(picks_by(game, []), [0])

    def test_boards_with_parts_that_are_too_great(self):
        text = "count c 30\nplace x throw d2 pay 0\nfrom 1 to 1 set c 0 go y\nfrom 2 to 2 plus c 1 go y\n"
        game = read_game(text + "place y pick 1\nway a go x\nway b go e\nplace e end 0")
        self.assertGreater(len(spread(game)[0]), 60)
        self.assertEqual(set(picks_by(game, [("y", "b", None)])), {1, None})

    def test_refused_as_spread_is(self):
        for rule in ([], [("a", "x", None)]):
            self.assertRaises(NoWay, picks_by, read_game("count c 1\nplace a pick 1\nway x if c from 1 go a"), rule)
            self.assertRaises(TooMany, picks_by, read_game(
                "count c 60\ncount d 60\nplace a pick 1\nway x plus c 1 go a\nway y plus d 1 go a"), rule)

    def test_many_games_and_rules(self):
        source = random.Random(232)
        tried = 0
        fitting = 0
        while tried < 300:
            game = some_game(source, source.randint(0, 3), source.randint(2, 8), 3, False)
            rule = some_rule(source, game, source.randint(0, 8))
            try:
                due = second_picks(game, rule)
            except TooMany:
                continue
            tried += 1
            fitting += due != second_picks(game, [])
            self.assertEqual(picks_by(game, rule), due)
        self.assertGreater(fitting, 50)


class TestApart(RuleCase):
    def test_what_is_handed_in_is_as_it_was(self):
        source = random.Random(233)
        for turn in range(60):
            game = some_game(source, 2, 6, 3, False)
            rule = some_rule(source, game, 6)
            kept = copy.deepcopy((game, rule))
            show_rule(rule)
            try:
                picks_by(game, rule)
            except TooMany:
                pass
            self.assertEqual((game, rule), kept)

    def test_a_change_of_what_was_told_changes_nothing_told_otherwise(self):
        text = "a b if c from 1\nd e"
        first = read_rule(text)
        second = read_rule(text)
        first.clear()
        self.assertEqual(second, [("a", "b", ("c", "from", 1)), ("d", "e", None)])
        self.assertEqual(read_rule(text), second)
        game = read_game(WIDE)
        picks = picks_by(game, [("y", "z", None)])
        kept = list(picks)
        picks.clear()
        self.assertEqual(picks_by(game, [("y", "z", None)]), kept)

    def test_a_change_of_what_was_handed_in_changes_nothing_told(self):
        game = read_game(WIDE)
        rule = [("y", "z", None)]
        picks = picks_by(game, rule)
        text = show_rule(rule)
        kept = list(picks)
        game[1][0][1][2].clear()
        game[1].clear()
        rule.clear()
        self.assertEqual((picks, text), (kept, "y z"))


if __name__ == "__main__":
    unittest.main()
