import copy
import math
import random
import unittest
from fractions import Fraction

from pressluck.errors import TooMany
from pressluck.pools import pool_table, throws
from pressluck.tables import added, mean

SINGLES = [
    ("number", 0), ("number", 7), ("number", 99),
    ("dice", 1, 1), ("dice", 1, 6), ("dice", 2, 6), ("dice", 3, 4), ("dice", 4, 6), ("dice", 6, 3), ("dice", 1, 20),
    ("dice", 6, 1), ("dice", 2, 20),
    ("best", 1, 1, 6), ("best", 1, 3, 4), ("best", 2, 3, 6), ("best", 3, 3, 4), ("best", 5, 6, 2), ("best", 1, 4, 6),
    ("worst", 1, 1, 8), ("worst", 1, 3, 4), ("worst", 2, 3, 6), ("worst", 3, 3, 4), ("worst", 2, 6, 2),
    ("hits", 1, 3, 6), ("hits", 5, 4, 6), ("hits", 6, 2, 6), ("hits", 7, 2, 6), ("hits", 20, 1, 20), ("hits", 20, 1, 4),
    ("again", 0, 6), ("again", 1, 6), ("again", 2, 6), ("again", 5, 6), ("again", 6, 6), ("again", 20, 6),
    ("again", 20, 20), ("again", 0, 1), ("again", 1, 1), ("again", 19, 20),
    ("burst", 0, 6), ("burst", 1, 6), ("burst", 3, 6), ("burst", 6, 6), ("burst", 6, 1), ("burst", 0, 1),
    ("burst", 6, 2), ("burst", 3, 20), ("burst", 6, 7),
]


def is_due(part, faces):
    """Whether one more face is thrown behind these."""
    if part[0] == "number":
        return False
    if part[0] == "again":
        return faces == [] or (len(faces) == 1 and faces[0] <= part[1])
    if part[0] == "burst":
        return faces == [] or (faces[-1] == part[2] and len(faces) <= part[1])
    return len(faces) < part[-2]


def worth_of(part, faces):
    kind = part[0]
    if kind == "number":
        return part[1]
    if kind == "hits":
        return sum(1 for face in faces if face >= part[1])
    if kind == "again":
        return faces[-1]
    left = list(faces)
    while kind in ("best", "worst") and len(left) > part[1]:
        left.remove(min(left) if kind == "best" else max(left))
    return sum(left)


def one_by_one(pool, faces=(), value=0, bottom=1):
    """The throws of a pool, each part's faces gone through one by one."""
    if not pool:
        return [(list(faces), value, Fraction(1, bottom).as_integer_ratio())]
    found = []

    def thrown(own):
        if is_due(pool[0], own):
            for face in range(1, pool[0][-1] + 1):
                thrown(own + [face])
        else:
            found.extend(one_by_one(pool[1:], list(faces) + own, value + worth_of(pool[0], own),
                                    bottom * pool[0][-1] ** len(own)))

    thrown([])
    return sorted(found, key=lambda throw: throw[0])


def table_by_throws(found):
    sums = {}
    for faces, value, part in found:
        sums[value] = sums.get(value, Fraction(0)) + Fraction(*part)
    return [(value, sums[value].as_integer_ratio()) for value in sorted(sums)]


def some_part(source, sides):
    sides = source.randint(1, sides)
    dice = source.randint(1, 3)
    return source.choice([
        ("number", source.randint(0, 99)), ("dice", dice, sides), ("best", source.randint(1, dice), dice, sides),
        ("worst", source.randint(1, dice), dice, sides), ("hits", source.randint(1, 7), dice, sides),
        ("again", source.randint(0, 7), sides), ("burst", source.randint(0, 3), sides)])


class PoolCase(unittest.TestCase):
    def assert_pool(self, pool):
        expected = one_by_one(pool)
        told = throws(pool)
        self.assertEqual(told, expected)
        self.assertEqual(pool_table(pool), table_by_throws(expected))
        self.assertIs(type(told), list)
        for throw in told:
            self.assertEqual([type(item) for item in throw], [list, int, tuple])
            self.assertIs(type(throw), tuple)
        listed = [faces for faces, value, part in told]
        self.assertEqual(listed, sorted(listed))
        self.assertEqual(len(listed), len({tuple(faces) for faces in listed}))
        self.assertEqual(sum(Fraction(*part) for faces, value, part in told), 1)

    def assert_refused(self, pool):
        for asked in (throws, pool_table):
            with self.subTest(pool=pool, asked=asked.__name__), self.assertRaises(TooMany):
                asked(pool)


class TestThrows(PoolCase):
    def test_named_ones(self):
        self.assertEqual(throws([("number", 7)]), [([], 7, (1, 1))])
        self.assertEqual(throws([("dice", 1, 2)]), [([1], 1, (1, 2)), ([2], 2, (1, 2))])
        self.assertEqual(throws([("best", 1, 2, 2)]),
                         [([1, 1], 1, (1, 4)), ([1, 2], 2, (1, 4)), ([2, 1], 2, (1, 4)), ([2, 2], 2, (1, 4))])
        self.assertEqual([value for faces, value, part in throws([("worst", 1, 2, 2)])], [1, 1, 1, 2])
        self.assertEqual([value for faces, value, part in throws([("hits", 2, 2, 2)])], [0, 1, 1, 2])
        self.assertEqual(throws([("again", 1, 3)]),
                         [([1, 1], 1, (1, 9)), ([1, 2], 2, (1, 9)), ([1, 3], 3, (1, 9)), ([2], 2, (1, 3)),
                          ([3], 3, (1, 3))])
        self.assertEqual(throws([("burst", 2, 2)]),
                         [([1], 1, (1, 2)), ([2, 1], 3, (1, 4)), ([2, 2, 1], 5, (1, 8)), ([2, 2, 2], 6, (1, 8))])

    def test_each_kind_against_faces_one_by_one(self):
        for part in SINGLES:
            with self.subTest(part):
                self.assert_pool([part])

    def test_a_number_alone(self):
        for number in (0, 1, 99):
            self.assertEqual(throws([("number", number)]), [([], number, (1, 1))])
            self.assertEqual(pool_table([("number", number)]), [(number, (1, 1))])
        self.assertEqual(throws([("number", 99)] * 4), [([], 396, (1, 1))])

    def test_best_and_worst_of_all_are_the_sum(self):
        for dice in range(1, 5):
            told = throws([("dice", dice, 5)])
            self.assertEqual(throws([("best", dice, dice, 5)]), told)
            self.assertEqual(throws([("worst", dice, dice, 5)]), told)

    def test_best_and_worst_of_one(self):
        for kind, chosen in (("best", max), ("worst", min)):
            for faces, value, part in throws([(kind, 1, 4, 5)]):
                self.assertEqual(value, chosen(faces))

    def test_best_and_worst_make_up_the_sum(self):
        for best, worst in zip(throws([("best", 2, 5, 3)]), throws([("worst", 3, 5, 3)])):
            self.assertEqual(best[0], worst[0])
            self.assertEqual(best[1] + worst[1], sum(best[0]))

    def test_again_throws_just_one_more(self):
        self.assertEqual(throws([("again", 0, 6)]), throws([("dice", 1, 6)]))
        for sides in (1, 2, 6):
            for low in (sides, sides + 1, 20):
                told = throws([("again", low, sides)])
                self.assertEqual(len(told), sides * sides)
                for faces, value, part in told:
                    self.assertEqual((len(faces), value, part), (2, faces[1], (1, sides * sides)))

    def test_burst_of_one_face(self):
        for more in range(7):
            self.assertEqual(throws([("burst", more, 1)]), [([1] * (more + 1), more + 1, (1, 1))])
        self.assertEqual(throws([("burst", 0, 6)]), throws([("dice", 1, 6)]))

    def test_pools_of_two_to_four_parts(self):
        named = [
            [("number", 3), ("dice", 2, 6)], [("dice", 1, 4), ("number", 0), ("again", 1, 4)],
            [("burst", 2, 3), ("again", 2, 3)], [("again", 2, 3), ("burst", 2, 3)],
            [("burst", 1, 2), ("burst", 3, 2), ("burst", 0, 2)], [("again", 1, 2)] * 4, [("burst", 1, 2)] * 4,
            [("best", 1, 2, 3), ("worst", 1, 2, 3), ("hits", 2, 1, 3), ("number", 9)],
            [("dice", 1, 6), ("dice", 1, 6)], [("again", 2, 2), ("again", 1, 1), ("burst", 6, 1)],
        ]
        for pool in named:
            with self.subTest(pool):
                self.assert_pool(pool)

    def test_many_pools(self):
        source = random.Random(81)
        tried = 0
        while tried < 150:
            pool = [some_part(source, 5) for turn in range(source.randint(2, 4))]
            if len(one_by_one(pool)) <= 400:
                tried += 1
                with self.subTest(pool):
                    self.assert_pool(pool)

    def test_a_pool_thrown_as_one_is_its_parts_thrown_apart(self):
        source = random.Random(82)
        for turn in range(40):
            one = [some_part(source, 4)]
            other = [some_part(source, 4)]
            table = added(pool_table(one), pool_table(other))
            self.assertEqual(pool_table(one + other), table)
            self.assertEqual(mean(pool_table(other + one)), mean(table))

    def test_somewhat_beyond_the_bounds_nothing_is_refused(self):
        for pool in ([("number", 100)], [("dice", 1, 21)], [("dice", 7, 2)], [("number", 1)] * 5, [("burst", 7, 2)],
                     [("hits", 21, 1, 6)], [("again", 21, 6)]):
            with self.subTest(pool):
                self.assert_pool(pool)


class TestSize(PoolCase):
    def test_just_within_1296_throws(self):
        for pool in ([("dice", 4, 6)], [("dice", 2, 6), ("best", 1, 2, 6)], [("hits", 3, 4, 6), ("number", 99)],
                     [("again", 6, 6), ("again", 20, 6)], [("dice", 2, 18), ("dice", 2, 2)],
                     [("worst", 1, 2, 9), ("dice", 4, 2)]):
            with self.subTest(pool):
                self.assertEqual(len(throws(pool)), 1296)
                self.assert_pool(pool)

    def test_just_beyond_1296_throws(self):
        for pool in ([("dice", 2, 10), ("dice", 1, 13)], [("dice", 1, 13), ("number", 0), ("again", 10, 10)],
                     [("best", 1, 2, 10), ("burst", 0, 13)], [("dice", 4, 6), ("dice", 1, 2)], [("hits", 1, 5, 6)],
                     [("worst", 5, 6, 6)], [("best", 2, 4, 7)], [("again", 20, 20), ("dice", 1, 4)],
                     [("burst", 3, 6), ("burst", 3, 6), ("burst", 2, 2)], [("dice", 6, 20)] * 4):
            self.assert_refused(pool)

    def test_just_within_a_bottom_of_1000000(self):
        for pool, count in (([("burst", 5, 10)], 55), ([("burst", 5, 2), ("burst", 5, 5)], 175),
                            ([("burst", 2, 4), ("number", 3), ("burst", 5, 5)], 250),
                            ([("burst", 5, 5), ("again", 1, 8)], 375), ([("burst", 6, 7)], 43)):
            with self.subTest(pool):
                self.assertEqual(len(throws(pool)), count)
                self.assert_pool(pool)

    def test_just_beyond_a_bottom_of_1000000(self):
        for pool in ([("again", 1, 2), ("burst", 5, 3), ("burst", 2, 7)], [("burst", 1, 2), ("burst", 5, 3),
                     ("burst", 2, 7)], [("burst", 6, 8)], [("burst", 5, 11)], [("burst", 4, 16)], [("burst", 6, 20)],
                     [("burst", 5, 10), ("dice", 1, 2)], [("burst", 5, 10), ("burst", 1, 2)]):
            self.assertLessEqual(math.prod(len(one_by_one([part])) for part in pool), 1296)
            self.assert_refused(pool)

    def test_again_counts_two_faces_from_1_on_and_one_with_0(self):
        for low, refused in ((0, False), (1, True)):
            pool = [("burst", 4, 10), ("again", low, 10)]
            if refused:
                self.assert_refused(pool)
            else:
                self.assertEqual(len(throws(pool)), 460)
        self.assertEqual(len(throws([("burst", 4, 10), ("burst", 0, 10)])), 460)

    def test_far_too_great_pools_are_refused_at_once(self):
        self.assert_refused([("dice", 1000000, 20)])
        self.assert_refused([("burst", 1000000, 20)])

    def test_behind_a_refusal_a_smaller_pool_is_answered(self):
        for turn in range(2):
            self.assert_refused([("dice", 5, 6)])
            self.assert_pool([("dice", 2, 6)])
            self.assert_refused([("burst", 6, 20)])
            self.assert_pool([("burst", 1, 20)])


class TestApart(PoolCase):
    def test_what_is_handed_in_is_as_it_was(self):
        for pool in ([("best", 2, 3, 4), ("number", 1)], [("again", 2, 6), ("burst", 2, 3)], [("dice", 6, 6)]):
            kept = copy.deepcopy(pool)
            for asked in (throws, pool_table):
                try:
                    asked(pool)
                except TooMany:
                    pass
                self.assertEqual(pool, kept)

    def test_a_change_of_what_was_told_changes_nothing_told_otherwise(self):
        for pool in ([("number", 4)], [("dice", 1, 3)], [("again", 1, 3), ("number", 2)], [("dice", 1, 2)] * 2):
            expected = one_by_one(pool)
            first = throws(pool)
            second = throws(pool)
            for throw in first:
                throw[0].append(99)
            first.clear()
            table = pool_table(pool)
            table.clear()
            self.assertEqual(second, expected)
            self.assert_pool(pool)

    def test_told_throws_share_no_lists(self):
        for pool in ([("dice", 2, 3), ("number", 1)], [("number", 1), ("burst", 2, 2)], [("again", 1, 2)]):
            told = throws(pool)
            self.assertEqual(len({id(faces) for faces, value, part in told}), len(told))

    def test_a_change_of_the_handed_in_pool_changes_nothing_told(self):
        pool = [("dice", 1, 2)]
        told = throws(pool)
        table = pool_table(pool)
        pool.append(("number", 5))
        pool[0] = ("dice", 2, 2)
        self.assertEqual(told, [([1], 1, (1, 2)), ([2], 2, (1, 2))])
        self.assertEqual(table, [(1, (1, 2)), (2, (1, 2))])


if __name__ == "__main__":
    unittest.main()
