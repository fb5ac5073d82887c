import math
import random
import unittest
from fractions import Fraction

from pressluck.errors import NoShare
from pressluck.shares import is_whole, minus, over, plus, read_share, share, show_share, times, under

BIG = 10 ** 1499 + 7
SIZES = (1, 2, 3, 12, 40, 300, 1500)


def some_whole(source, figures):
    return source.choice((1, -1)) * source.randrange(10 ** figures)


def some_share(source, figures):
    top = some_whole(source, figures)
    return Fraction(top, source.randrange(1, 10 ** figures)).as_integer_ratio()


class ShareCase(unittest.TestCase):
    def assert_share(self, one, expected):
        self.assertIs(type(one), tuple)
        self.assertEqual(one, Fraction(expected).as_integer_ratio())
        for number in one:
            self.assertIs(type(number), int)
        self.assertGreaterEqual(one[1], 1)
        self.assertEqual(math.gcd(one[0], one[1]), 1)


class TestIsWhole(unittest.TestCase):
    def test_whole_numbers(self):
        for number in (0, 1, -1, 2, 10 ** 12, BIG, -BIG):
            self.assertIs(is_whole(number), True)

    def test_other_things(self):
        things = (True, False, None, "", "1", "12", b"1", 1.0, 0.5, [], [1], (), (1,), (1, 2), {}, {1: 1}, {1},
                  Fraction(1), int, object(), is_whole)
        for thing in things:
            with self.subTest(repr(thing)):
                self.assertIs(is_whole(thing), False)


class TestShare(ShareCase):
    def test_named_ones(self):
        cases = (((3, 1), (3, 1)), ((6, 4), (3, 2)), ((-6, 4), (-3, 2)), ((6, -4), (-3, 2)), ((-6, -4), (3, 2)),
                 ((0, 5), (0, 1)), ((0, -5), (0, 1)), ((0, 1), (0, 1)), ((1, -1), (-1, 1)), ((5, 5), (1, 1)),
                 ((-7, 7), (-1, 1)), ((1, 9), (1, 9)), ((12, 18), (2, 3)))
        for numbers, expected in cases:
            with self.subTest(numbers):
                self.assertEqual(share(numbers[0], numbers[1]), expected)

    def test_all_small_ones(self):
        for top in range(-30, 31):
            for bottom in range(-30, 31):
                if bottom != 0:
                    self.assert_share(share(top, bottom), Fraction(top, bottom))

    def test_great_ones(self):
        source = random.Random(41)
        for figures in SIZES:
            for turn in range(8):
                top = some_whole(source, figures)
                bottom = source.choice((1, -1)) * source.randrange(1, 10 ** figures)
                self.assert_share(share(top, bottom), Fraction(top, bottom))

    def test_great_ones_with_great_common_divisors(self):
        common = 3 ** 1500
        for top, bottom in ((2, 5), (-2, 5), (2, -5), (-4, -7), (1, 1), (0, 9)):
            self.assert_share(share(top * common, bottom * common), Fraction(top, bottom))
        self.assert_share(share(BIG, BIG), 1)
        self.assert_share(share(-BIG, BIG), -1)
        self.assert_share(share(0, -BIG), 0)

    def test_a_bottom_of_0_is_refused(self):
        for top in (0, 1, -1, 12, BIG, -BIG):
            with self.subTest(str(top)[:5]), self.assertRaises(NoShare):
                share(top, 0)


class TestReckoning(ShareCase):
    def check_pair(self, one, other):
        first = Fraction(one[0], one[1])
        second = Fraction(other[0], other[1])
        self.assert_share(plus(one, other), first + second)
        self.assert_share(minus(one, other), first - second)
        self.assert_share(times(one, other), first * second)
        if second == 0:
            with self.assertRaises(NoShare):
                over(one, other)
        else:
            self.assert_share(over(one, other), first / second)
        self.assertIs(under(one, other), one[0] * other[1] < other[0] * one[1])

    def test_named_ones(self):
        self.assertEqual(plus((1, 2), (1, 3)), (5, 6))
        self.assertEqual(plus((1, 2), (1, 2)), (1, 1))
        self.assertEqual(plus((1, 2), (-1, 2)), (0, 1))
        self.assertEqual(minus((1, 2), (1, 3)), (1, 6))
        self.assertEqual(minus((1, 3), (1, 2)), (-1, 6))
        self.assertEqual(times((2, 3), (3, 4)), (1, 2))
        self.assertEqual(times((-2, 3), (0, 1)), (0, 1))
        self.assertEqual(over((1, 2), (-3, 4)), (-2, 3))
        self.assertEqual(over((-1, 2), (-1, 2)), (1, 1))
        self.assertEqual(over((0, 1), (-5, 7)), (0, 1))

    def test_all_small_pairs(self):
        shares = sorted({Fraction(top, bottom) for top in range(-4, 5) for bottom in range(1, 6)})
        for one in shares:
            for other in shares:
                self.check_pair(one.as_integer_ratio(), other.as_integer_ratio())

    def test_great_pairs(self):
        source = random.Random(42)
        for figures in SIZES:
            for more in SIZES:
                self.check_pair(some_share(source, figures), some_share(source, more))

    def test_a_quotient_by_0_is_refused(self):
        for one in ((0, 1), (1, 2), (-1, 2), (BIG, 3)):
            with self.assertRaises(NoShare):
                over(one, (0, 1))


class TestUnder(unittest.TestCase):
    def test_named_ones(self):
        self.assertIs(under((1, 3), (1, 2)), True)
        self.assertIs(under((1, 2), (1, 3)), False)
        self.assertIs(under((-1, 2), (-1, 3)), True)
        self.assertIs(under((-1, 3), (-1, 2)), False)
        self.assertIs(under((-1, 9), (0, 1)), True)
        self.assertIs(under((0, 1), (1, 9)), True)

    def test_equal_shares(self):
        for one in ((0, 1), (1, 1), (-1, 2), (2, 3), (BIG, 10), (-BIG, 10)):
            self.assertIs(under(one, one), False)

    def test_a_sliver_apart(self):
        for number in (10 ** 17, 10 ** 300, 10 ** 1400):
            less = (number - 1, number)
            more = (number, number + 1)
            self.assertIs(under(less, more), True)
            self.assertIs(under(more, less), False)
            self.assertIs(under((-number, number + 1), (1 - number, number)), True)
            self.assertIs(under((1 - number, number), (-number, number + 1)), False)


class TestShow(unittest.TestCase):
    def test_named_ones(self):
        for one, text in (((3, 1), "3"), ((-1, 2), "-1/2"), ((0, 1), "0"), ((-4, 1), "-4"), ((7, 10), "7/10"),
                          ((10, 3), "10/3"), ((999999999999, 1), "999999999999")):
            self.assertEqual(show_share(one), text)

    def test_many_figures(self):
        for figures in (13, 100, 639, 641, 900, 1500):
            nines = "9" * figures
            tens = "1" + "0" * (figures - 1)
            self.assertEqual(show_share((int(nines), 1)), nines)
            self.assertEqual(show_share((-int(nines), 1)), "-" + nines)
            self.assertEqual(show_share((int(nines), int(tens))), nines + "/" + tens)
            self.assertEqual(show_share((-int(nines), int(tens))), "-" + nines + "/" + tens)


class TestRead(unittest.TestCase):
    def assert_refused(self, thing):
        with self.subTest(repr(thing)), self.assertRaises(NoShare):
            read_share(thing)

    def test_named_ones(self):
        for text, one in (("3", (3, 1)), ("-1/2", (-1, 2)), ("0", (0, 1)), ("-7", (-7, 1)), ("10", (10, 1)),
                          ("1/2", (1, 2)), ("100/3", (100, 3)), ("1/100", (1, 100)), ("9/10", (9, 10)),
                          ("999999999999", (999999999999, 1)), ("-999999999999", (-999999999999, 1)),
                          ("1/999999999999", (1, 999999999999)), ("-1/100000000000", (-1, 100000000000)),
                          ("999999999998/999999999999", (999999999998, 999999999999))):
            with self.subTest(text):
                self.assertEqual(read_share(text), one)
                self.assertIs(type(read_share(text)), tuple)

    def test_all_small_texts(self):
        for top in range(-25, 26):
            self.assertEqual(read_share(str(top)), (top, 1))
            for bottom in range(0, 26):
                text = f"{top}/{bottom}"
                if bottom > 1 and math.gcd(top, bottom) == 1:
                    self.assertEqual(read_share(text), (top, bottom))
                else:
                    self.assert_refused(text)

    def test_written_and_read_back(self):
        source = random.Random(43)
        for figures in range(1, 13):
            for turn in range(20):
                one = some_share(source, figures)
                self.assertEqual(read_share(show_share(one)), one)

    def test_noughts(self):
        for text in ("00", "01", "007", "-01", "-0", "-00", "1/02", "01/2", "-01/2", "1/00", "000000000001",
                     "0/5", "-0/5", "0/0", "-0/1", "0/1", "1/0", "-1/0", "0/2"):
            self.assert_refused(text)

    def test_other_forms_of_a_share(self):
        for text in ("2/4", "-2/4", "6/3", "5/5", "3/1", "-3/1", "500000000000/999999999998"):
            self.assert_refused(text)

    def test_too_many_figures(self):
        for text in ("1" * 13, "-" + "1" * 13, "1/1" + "0" * 12, "1" + "0" * 12 + "/3", "0" * 13, "9" * 4000,
                     "1/" + "9" * 3998):
            self.assert_refused(text)

    def test_signs_out_of_place(self):
        for text in ("", "-", "/", "+", "--1", "+1", "-+1", "1-", "1/-2", "-1/-2", "1/+2", "+1/2", "/2", "-/2", "1/",
                     "-1/", "1//2", "1/2/", "/1/2", "1/2/3", "1/3/", "1.0", "1,5", "1_0", "0x1", "1e3", "1/2-",
                     "a", "1a", "a1", "1/b", "(1, 2)", "1:2", "1\\2", "\u22121", "1\u20442"):
            self.assert_refused(text)

    def test_blanks_and_line_ends(self):
        for blank in (" ", "\n", "\t", "\r", "\r\n", "\v", "\f", "\x00", "\xa0", "\u2003", "\u2028", "\ufeff"):
            for text in ("3", "-1/2", "0"):
                for place in range(len(text) + 1):
                    self.assert_refused(text[:place] + blank + text[place:])
            self.assert_refused(blank)

    def test_figures_that_are_not_0_to_9(self):
        for figure in "\u0663\u00b2\u00b9\u2460\u0967\uff13\u00bd\u4e09\u2083\U0001d7d1":
            for text in (figure, "-" + figure, figure + "/2", "1/" + figure, "1" + figure, figure + "1"):
                self.assert_refused(text)

    def test_things_that_are_no_text(self):
        for thing in (None, True, False, 0, 3, -1, 1.5, b"3", [], ["3"], ("3",), (3, 1), (1, 2), {}, {"3": 1}, str):
            self.assert_refused(thing)

    def test_behind_a_refusal_all_is_as_it_was(self):
        self.assert_refused("1/0")
        self.assertEqual(read_share("1/2"), (1, 2))


if __name__ == "__main__":
    unittest.main()
