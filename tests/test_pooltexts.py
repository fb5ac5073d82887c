import copy
import itertools
import random
import re
import unittest

from pressluck.errors import NoPool
from pressluck.pooltexts import read_pool, show_pool

WRITTEN = [
    ("7", [("number", 7)]), ("0", [("number", 0)]), ("10", [("number", 10)]), ("99", [("number", 99)]),
    ("d6", [("dice", 1, 6)]), ("d1", [("dice", 1, 1)]), ("d20", [("dice", 1, 20)]), ("2d6", [("dice", 2, 6)]),
    ("3d6", [("dice", 3, 6)]), ("6d20", [("dice", 6, 20)]), ("6d1", [("dice", 6, 1)]),
    ("best 2 of 3d6", [("best", 2, 3, 6)]), ("best 1 of d1", [("best", 1, 1, 1)]),
    ("best 6 of 6d20", [("best", 6, 6, 20)]), ("worst 1 of d8", [("worst", 1, 1, 8)]),
    ("worst 6 of 6d20", [("worst", 6, 6, 20)]), ("worst 1 of 6d1", [("worst", 1, 6, 1)]),
    ("hits 5 of 4d6", [("hits", 5, 4, 6)]), ("hits 1 of d1", [("hits", 1, 1, 1)]),
    ("hits 20 of 6d20", [("hits", 20, 6, 20)]), ("hits 20 of d2", [("hits", 20, 1, 2)]),
    ("again 2 of d6", [("again", 2, 6)]), ("again 0 of d1", [("again", 0, 1)]), ("again 20 of d20", [("again", 20, 20)]),
    ("again 20 of d1", [("again", 20, 1)]), ("burst 3 of d6", [("burst", 3, 6)]), ("burst 0 of d1", [("burst", 0, 1)]),
    ("burst 6 of d20", [("burst", 6, 20)]),
    ("d6 + 7", [("dice", 1, 6), ("number", 7)]), ("0 + 0 + 0 + 0", [("number", 0)] * 4),
    ("best 2 of 3d6 + 7 + again 2 of d6 + burst 3 of d6",
     [("best", 2, 3, 6), ("number", 7), ("again", 2, 6), ("burst", 3, 6)]),
    ("worst 1 of d8 + hits 5 of 4d6", [("worst", 1, 1, 8), ("hits", 5, 4, 6)]),
    ("6d20 + 6d20 + 6d20 + 6d20", [("dice", 6, 20)] * 4),
]


def all_parts():
    found = [("number", number) for number in range(100)]
    for sides in range(1, 21):
        found.extend(("again", low, sides) for low in range(21))
        found.extend(("burst", more, sides) for more in range(7))
        for dice in range(1, 7):
            found.append(("dice", dice, sides))
            found.extend(("hits", least, dice, sides) for least in range(1, 21))
            for kind in ("best", "worst"):
                found.extend((kind, taken, dice, sides) for taken in range(1, dice + 1))
    return found


def writes_part(text):
    """Whether a text writes a part, by the forms and then by the bounds."""
    number = "(0|[1-9][0-9]?)"
    found = re.fullmatch(number, text, re.ASCII)
    if found:
        return True
    found = re.fullmatch(f"(?:(best|worst|hits|again|burst) {number} of )?([2-6]?)d{number}", text, re.ASCII)
    if not found or not 1 <= int(found[4]) <= 20:
        return False
    dice = int(found[3] or 1)
    if found[1] in ("again", "burst"):
        return dice == 1 and int(found[2]) <= {"again": 20, "burst": 6}[found[1]]
    return found[1] is None or 1 <= int(found[2]) <= (20 if found[1] == "hits" else dice)


def writes_pool(text):
    parts = text.split(" + ")
    return len(parts) <= 4 and all(writes_part(part) for part in parts)


class TextCase(unittest.TestCase):
    def assert_refused(self, thing):
        with self.subTest(repr(thing)), self.assertRaises(NoPool):
            read_pool(thing)


class TestWritten(TextCase):
    def test_named_ones(self):
        for text, pool in WRITTEN:
            with self.subTest(text):
                self.assertEqual(show_pool(pool), text)
                self.assertEqual(read_pool(text), pool)
                self.assertIs(type(read_pool(text)), list)
                for part in read_pool(text):
                    self.assertIs(type(part), tuple)

    def test_each_part_is_written_and_read_back(self):
        texts = {}
        for part in all_parts():
            text = show_pool([part])
            self.assertEqual(read_pool(text), [part])
            self.assertNotIn(text, texts)
            texts[text] = part

    def test_many_pools_are_written_and_read_back(self):
        source = random.Random(91)
        parts = all_parts()
        for turn in range(300):
            pool = [source.choice(parts) for part in range(source.randint(1, 4))]
            text = show_pool(pool)
            self.assertEqual(text, " + ".join(show_pool([part]) for part in pool))
            self.assertEqual(read_pool(text), pool)

    def test_pools_too_great_to_be_thrown_are_read(self):
        self.assertEqual(read_pool("6d20"), [("dice", 6, 20)])
        self.assertEqual(read_pool("burst 6 of d20"), [("burst", 6, 20)])


class TestRefused(TextCase):
    def test_noughts_ahead(self):
        for text in ("00", "07", "007", "d06", "03d6", "0d6", "3d06", "best 02 of 3d6", "best 2 of 03d6",
                     "worst 1 of d08", "hits 05 of 4d6", "again 00 of d6", "again 02 of d6", "burst 03 of d6",
                     "burst 00 of d6", "d6 + 07"):
            self.assert_refused(text)

    def test_one_die_has_no_number(self):
        for text in ("1d6", "best 1 of 1d6", "worst 1 of 1d8", "hits 5 of 1d6", "again 2 of 1d6", "burst 3 of 1d6",
                     "d6 + 1d6"):
            self.assert_refused(text)

    def test_numbers_too_great_or_too_small(self):
        for text in ("100", "999", "-1", "-0", "+1", "7d6", "0d6", "10d6", "60d6", "d0", "d21", "2d0", "2d21", "d100",
                     "best 0 of 3d6", "best 4 of 3d6", "best 2 of d6", "best 7 of 6d6", "best 1 of 7d6",
                     "best 1 of 0d6", "best 1 of 2d21", "best 1 of d0", "worst 0 of d8", "worst 2 of d8",
                     "worst 7 of 6d6", "worst 1 of 7d6", "hits 0 of 4d6", "hits 21 of 4d6", "hits 5 of 7d6",
                     "hits 5 of 4d21", "hits 5 of 0d6", "again 21 of d6", "again -1 of d6", "again 2 of d0",
                     "again 2 of d21", "burst 7 of d6", "burst -1 of d6", "burst 3 of d0", "burst 3 of d21",
                     "9" * 4000, "d" + "9" * 3999, "burst " + "9" * 3900 + " of d6", "1" * 13):
            self.assert_refused(text)

    def test_again_and_burst_have_just_one_die(self):
        for text in ("again 2 of 2d6", "burst 3 of 3d6", "again 0 of 6d6", "burst 0 of 2d1"):
            self.assert_refused(text)

    def test_the_number_of_parts(self):
        for text in ("", " + ", "7 + ", " + 7", "7 + 7 + 7 + 7 + 7", "d6 + d6 + d6 + d6 + 1", "7 +  + 7", "+", " +", "+ ",
                     " + ".join(["0"] * 999)):
            self.assert_refused(text)

    def test_blanks_more_or_fewer(self):
        for text in ("best 2 of 3d6 + d6", "hits 5 of 4d6", "again 2 of d6", "d6 + 7"):
            for place in range(len(text) + 1):
                self.assert_refused(text[:place] + " " + text[place:])
            for place in range(len(text)):
                if text[place] == " ":
                    self.assert_refused(text[:place] + text[place + 1:])
        for text in (" ", "  ", "3 d6", "3d 6", "d 6", "best2 of 3d6", "d6+7", "d6 +7", "d6+ 7", "d6 7"):
            self.assert_refused(text)

    def test_great_letters(self):
        for text in ("D6", "3D6", "Best 2 of 3d6", "best 2 OF 3d6", "best 2 of 3D6", "HITS 5 of 4d6", "Again 2 of d6",
                     "bursT 3 of d6", "WORST 1 of d8"):
            self.assert_refused(text)

    def test_words_left_out_or_changed(self):
        for text, pool in WRITTEN:
            words = text.split(" ")
            if len(words) == 4:
                for place in range(4):
                    left = words[:place] + words[place + 1:]
                    self.assert_refused(" ".join(left))
                    self.assert_refused(" ".join(words[:place] + [words[place]] * 2 + words[place + 1:]))
                for turned in itertools.permutations(words):
                    if list(turned) != words:
                        self.assert_refused(" ".join(turned))
        for text in ("best", "of", "d", "best of", "number 7", "dice 3 6", "least 2 of 3d6", "best 2 from 3d6",
                     "best 2 of 7", "best 2 of 3", "hits of 4d6", "best two of 3d6", "best 2 of 3d6 of 3d6", "d6d6",
                     "3d6d", "dd6", "3dd6", "best d2 of 3d6", "best 2d6 of 3d6"):
            self.assert_refused(text)

    def test_signs_put_in_anywhere(self):
        for text in ("7", "3d6", "best 2 of 3d6 + d6", "again 2 of d6"):
            for place in range(len(text) + 1):
                for sign in "-.,_*x/'\"()\u0663\x00":
                    self.assert_refused(text[:place] + sign + text[place:])
                self.assert_refused(text[:place] + "+" + text[place:])

    def test_signs_left_out_put_in_and_changed_anywhere(self):
        for text in ("best 2 of 3d6", "worst 1 of 2d8", "hits 5 of 4d6", "again 2 of d6", "burst 3 of d6 + 1", "12d6",
                     "d6 + 7", "0 + 0"):
            for place in range(len(text)):
                changed = [text[:place] + text[place + 1:]]
                for sign in "0123456789d +of":
                    changed.extend([text[:place] + sign + text[place + 1:], text[:place] + sign + text[place:]])
                for other in changed:
                    if writes_pool(other):
                        self.assertEqual(show_pool(read_pool(other)), other)
                    else:
                        self.assert_refused(other)

    def test_line_ends_and_other_blanks(self):
        for blank in ("\n", "\t", "\r", "\r\n", "\v", "\f", "\xa0", "\u2003", "\u2028", "\ufeff"):
            for text in ("7", "3d6", "best 2 of 3d6", "d6 + 7"):
                for place in range(len(text) + 1):
                    self.assert_refused(text[:place] + blank + text[place:])
                if " " in text:
                    self.assert_refused(text.replace(" ", blank))

    def test_figures_that_are_not_0_to_9(self):
        for figure in "\u0663\u00b2\u00b9\u2460\u0967\uff13\u00bd\u4e09\u2083\U0001d7d1":
            for text in (figure, "1" + figure, figure + "1", "d" + figure, figure + "d6", f"best {figure} of 3d6",
                         f"best 2 of {figure}d6", f"worst 1 of d{figure}", f"hits {figure} of 4d6",
                         f"again {figure} of d6", f"burst {figure} of d6", f"d6 + {figure}"):
                self.assert_refused(text)

    def test_things_that_are_no_text(self):
        for thing in (None, True, False, 0, 7, 1.5, b"7", b"d6", [], ["7"], ("7",), ("number", 7), [("number", 7)], {},
                      {"7": 1}, str):
            self.assert_refused(thing)

    def test_behind_a_refusal_all_is_as_it_was(self):
        for turn in range(2):
            self.assert_refused("1d6")
            self.assertEqual(read_pool("d6"), [("dice", 1, 6)])


class TestApart(TextCase):
    def test_what_is_handed_in_is_as_it_was(self):
        for text, pool in WRITTEN:
            kept = copy.deepcopy(pool)
            show_pool(pool)
            self.assertEqual(pool, kept)

    def test_a_change_of_what_was_told_changes_nothing_told_otherwise(self):
        first = read_pool("d6 + 7")
        second = read_pool("d6 + 7")
        first.append(("number", 1))
        first[0] = None
        self.assertEqual(second, [("dice", 1, 6), ("number", 7)])
        self.assertEqual(read_pool("d6 + 7"), second)

    def test_a_change_of_the_handed_in_pool_changes_nothing_told(self):
        pool = [("dice", 1, 6)]
        text = show_pool(pool)
        pool.append(("number", 7))
        self.assertEqual(text, "d6")
        self.assertEqual(show_pool(pool), "d6 + 7")


if __name__ == "__main__":
    unittest.main()
