import unittest

from pressluck import errors
from pressluck.errors import LuckError, NoEnd, NoShare, NoTable
from pressluck.shares import over, read_share, share
from pressluck.tables import table_of

NAMES = ["NoShare", "NoTable", "NoPool", "NoEnd", "TooMany", "NoGame", "NoWay", "NoRule", "NoStep", "NoPlay", "NoRow"]


class TestClasses(unittest.TestCase):
    def test_each_refusal_is_a_luck_error_and_a_value_error(self):
        self.assertTrue(issubclass(LuckError, ValueError))
        for name in NAMES:
            with self.subTest(name):
                self.assertEqual(getattr(errors, name).__bases__, (LuckError,))

    def test_none_stands_under_another(self):
        for name in NAMES:
            for other in NAMES:
                if name != other:
                    with self.subTest(name=name, other=other):
                        self.assertFalse(issubclass(getattr(errors, name), getattr(errors, other)))

    def test_each_can_be_raised_with_words(self):
        for name in NAMES:
            if name != "NoEnd":
                kind = getattr(errors, name)
                with self.subTest(name), self.assertRaises(kind):
                    raise kind("words")


class TestNoEnd(unittest.TestCase):
    def test_has_the_ring_as_places(self):
        self.assertEqual(NoEnd([0, 3, 7]).places, [0, 3, 7])
        self.assertEqual(NoEnd([2]).places, [2])
        with self.assertRaises(LuckError) as caught:
            raise NoEnd([1, 2])
        self.assertEqual(caught.exception.places, [1, 2])
        self.assertIs(type(caught.exception.places), list)

    def test_places_are_apart_from_the_list_handed_in(self):
        ring = [1, 2]
        error = NoEnd(ring)
        words = str(error)
        ring.append(3)
        self.assertEqual(error.places, [1, 2])
        self.assertEqual(str(error), words)
        error.places.append(9)
        self.assertEqual(ring, [1, 2, 3])

    def test_two_errors_share_nothing(self):
        ring = [4]
        first = NoEnd(ring)
        second = NoEnd(ring)
        first.places.clear()
        self.assertEqual(second.places, [4])


class TestRefusals(unittest.TestCase):
    def test_behind_a_refusal_a_good_input_is_answered_as_ever(self):
        for turn in range(3):
            with self.assertRaises(NoShare):
                share(1, 0)
            self.assertEqual(share(2, 4), (1, 2))
            with self.assertRaises(NoShare):
                over((1, 2), (0, 1))
            self.assertEqual(over((1, 2), (1, 4)), (2, 1))
            with self.assertRaises(NoShare):
                read_share("2/4")
            self.assertEqual(read_share("1/2"), (1, 2))
            with self.assertRaises(NoTable):
                table_of([(5, 3), (1, -1)])
            self.assertEqual(table_of([(1, 1)]), [(1, (1, 1))])

    def test_the_refusals_are_caught_as_value_errors_too(self):
        for kind in (LuckError, ValueError):
            with self.assertRaises(kind):
                share(0, 0)
            with self.assertRaises(kind):
                table_of([])


if __name__ == "__main__":
    unittest.main()
