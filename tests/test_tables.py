import copy
import itertools
import math
import random
import unittest
from fractions import Fraction

from pressluck.errors import NoTable
from pressluck.tables import added, mean, share_from, table_of

SIX = [(face, (1, 6)) for face in range(1, 7)]
NOTHING = [(0, (1, 1))]


def some_rows(source, most, spread=20, weight=30):
    rows = [(source.randrange(-spread, spread + 1), source.randrange(weight)) for turn in range(source.randrange(most))]
    return rows + [(source.randrange(-spread, spread + 1), source.randrange(1, weight))]


def reckoned(rows):
    total = sum(weight for value, weight in rows)
    sums = {}
    for value, weight in rows:
        sums[value] = sums.get(value, Fraction(0)) + Fraction(weight, total)
    return [(value, sums[value].as_integer_ratio()) for value in sorted(sums) if sums[value] > 0]


def paired(one, other):
    sums = {}
    for first, second in itertools.product(one, other):
        value = first[0] + second[0]
        sums[value] = sums.get(value, Fraction(0)) + Fraction(*first[1]) * Fraction(*second[1])
    return [(value, sums[value].as_integer_ratio()) for value in sorted(sums)]


class TableCase(unittest.TestCase):
    def assert_table(self, table):
        self.assertIs(type(table), list)
        values = []
        for row in table:
            self.assertIs(type(row), tuple)
            self.assertIs(type(row[1]), tuple)
            self.assertGreater(row[1][0], 0)
            self.assertGreaterEqual(row[1][1], 1)
            self.assertEqual(math.gcd(row[1][0], row[1][1]), 1)
            values.append(row[0])
        self.assertEqual(values, sorted(set(values)))
        self.assertEqual(sum(Fraction(*row[1]) for row in table), 1)


class TestTableOf(TableCase):
    def test_named_ones(self):
        self.assertEqual(table_of([(1, 1), (2, 1)]), [(1, (1, 2)), (2, (1, 2))])
        self.assertEqual(table_of([(face, 5) for face in range(6, 0, -1)]), SIX)
        self.assertEqual(table_of([(7, 3)]), [(7, (1, 1))])
        self.assertEqual(table_of([(3, 1), (-2, 2), (3, 1), (0, 4)]), [(-2, (1, 4)), (0, (1, 2)), (3, (1, 4))])

    def test_values_told_more_than_once(self):
        self.assertEqual(table_of([(5, 1), (5, 2), (5, 3)]), [(5, (1, 1))])
        self.assertEqual(table_of([(5, 1), (4, 3), (5, 2)]), [(4, (1, 2)), (5, (1, 2))])

    def test_values_of_no_weight_are_left_out(self):
        self.assertEqual(table_of([(1, 0), (2, 1), (3, 0)]), [(2, (1, 1))])
        self.assertEqual(table_of([(1, 0), (1, 0), (2, 1)]), [(2, (1, 1))])
        self.assertEqual(table_of([(1, 0), (2, 1), (1, 1)]), [(1, (1, 2)), (2, (1, 2))])

    def test_any_order_tells_the_same(self):
        rows = [(3, 1), (-1, 2), (3, 4), (8, 0), (2, 5)]
        expected = reckoned(rows)
        for turned in itertools.permutations(rows):
            self.assertEqual(table_of(list(turned)), expected)

    def test_many_rows(self):
        source = random.Random(61)
        for turn in range(200):
            rows = some_rows(source, 12)
            self.assert_table(table_of(rows))
            self.assertEqual(table_of(rows), reckoned(rows))

    def test_the_greatest_lists_and_numbers(self):
        source = random.Random(62)
        rows = [(source.randrange(-10 ** 12, 10 ** 12), source.randrange(10 ** 12)) for turn in range(1300)]
        self.assert_table(table_of(rows))
        self.assertEqual(table_of(rows), reckoned(rows))

    def test_a_weight_below_0_is_refused(self):
        for rows in ([(1, -1)], [(1, 2), (2, -1)], [(1, -1), (2, 2)], [(1, 5), (1, -1)], [(1, -1), (1, 5)],
                     [(1, 0), (2, -3), (3, 9)], [(4, 1), (5, -10 ** 11)]):
            with self.subTest(rows), self.assertRaises(NoTable):
                table_of(rows)

    def test_no_weight_above_0_is_refused(self):
        for rows in ([], [(1, 0)], [(1, 0), (2, 0)], [(3, 0), (3, 0)]):
            with self.subTest(rows), self.assertRaises(NoTable):
                table_of(rows)


class TestAdded(TableCase):
    def test_named_ones(self):
        two = [(2, (1, 36)), (3, (1, 18)), (4, (1, 12)), (5, (1, 9)), (6, (5, 36)), (7, (1, 6)),
               (8, (5, 36)), (9, (1, 9)), (10, (1, 12)), (11, (1, 18)), (12, (1, 36))]
        self.assertEqual(added(SIX, SIX), two)
        self.assertEqual(added([(-1, (1, 2)), (1, (1, 2))], [(-1, (1, 2)), (1, (1, 2))]),
                         [(-2, (1, 4)), (0, (1, 2)), (2, (1, 4))])

    def test_against_all_pairs_both_ways_round(self):
        source = random.Random(71)
        for turn in range(100):
            one = table_of(some_rows(source, 9))
            other = table_of(some_rows(source, 9))
            self.assert_table(added(one, other))
            self.assertEqual(added(one, other), paired(one, other))
            self.assertEqual(added(other, one), paired(one, other))

    def test_shares_of_unlike_bottoms(self):
        one = [(0, (1, 2)), (1, (1, 3)), (5, (1, 6))]
        other = [(-5, (3, 10)), (0, (1, 5)), (4, (1, 2))]
        self.assertEqual(added(one, other), paired(one, other))

    def test_the_table_of_0_alone_changes_nothing(self):
        for table in (SIX, NOTHING, [(-3, (2, 5)), (9, (3, 5))]):
            self.assertEqual(added(table, NOTHING), table)
            self.assertEqual(added(NOTHING, table), table)

    def test_shares_of_many_figures(self):
        table = [(0, (1, 3)), (1, (2, 3))]
        for turn in range(8):
            table = added(table, table)
        expected = [(hits, Fraction(math.comb(256, hits) * 2 ** hits, 3 ** 256).as_integer_ratio())
                    for hits in range(257)]
        self.assertEqual(table, expected)

    def test_long_tables(self):
        one = table_of([(value, 1) for value in range(1300)])
        sums = added(one, one)
        self.assertEqual(len(sums), 2599)
        self.assertEqual(sums[0], (0, (1, 1690000)))
        self.assertEqual(sums[1299], (1299, (1, 1300)))
        self.assert_table(sums)


class TestMean(TableCase):
    def test_named_ones(self):
        self.assertEqual(mean(SIX), (7, 2))
        self.assertEqual(mean(NOTHING), (0, 1))
        self.assertEqual(mean([(-4, (1, 1))]), (-4, 1))
        self.assertEqual(mean([(-1, (1, 2)), (1, (1, 2))]), (0, 1))
        self.assertEqual(mean([(-3, (1, 2)), (0, (1, 3)), (1, (1, 6))]), (-4, 3))

    def test_against_sums(self):
        source = random.Random(72)
        for turn in range(100):
            table = table_of(some_rows(source, 12))
            expected = sum(value * Fraction(*part) for value, part in table)
            self.assertEqual(mean(table), expected.as_integer_ratio())
            self.assertIs(type(mean(table)), tuple)

    def test_means_add_up(self):
        source = random.Random(73)
        for turn in range(30):
            one = table_of(some_rows(source, 8))
            other = table_of(some_rows(source, 8))
            both = Fraction(*mean(one)) + Fraction(*mean(other))
            self.assertEqual(mean(added(one, other)), both.as_integer_ratio())


class TestShareFrom(TableCase):
    def test_named_ones(self):
        for number, expected in ((-10, (1, 1)), (0, (1, 1)), (1, (1, 1)), (2, (5, 6)), (3, (2, 3)), (4, (1, 2)),
                                 (5, (1, 3)), (6, (1, 6)), (7, (0, 1)), (99, (0, 1))):
            self.assertEqual(share_from(SIX, number), expected)

    def test_at_beside_below_and_above(self):
        table = [(-5, (1, 2)), (0, (1, 3)), (10, (1, 6))]
        for number, expected in ((-10 ** 11, (1, 1)), (-6, (1, 1)), (-5, (1, 1)), (-4, (1, 2)), (-1, (1, 2)),
                                 (0, (1, 2)), (1, (1, 6)), (9, (1, 6)), (10, (1, 6)), (11, (0, 1)),
                                 (10 ** 11, (0, 1))):
            with self.subTest(number):
                self.assertEqual(share_from(table, number), expected)

    def test_against_sums(self):
        source = random.Random(74)
        for turn in range(40):
            table = table_of(some_rows(source, 10))
            for number in range(-22, 23):
                expected = sum((Fraction(*part) for value, part in table if value >= number), Fraction(0))
                self.assertEqual(share_from(table, number), expected.as_integer_ratio())


class TestApart(TableCase):
    def test_what_is_handed_in_is_as_it_was(self):
        rows = [(3, 1), (1, 2), (3, 0), (2, 0)]
        kept = copy.deepcopy(rows)
        table = table_of(rows)
        self.assertEqual(rows, kept)
        one = copy.deepcopy(table)
        other = copy.deepcopy(SIX)
        added(one, other)
        mean(one)
        share_from(one, 2)
        self.assertEqual(one, table)
        self.assertEqual(other, SIX)

    def test_refused_rows_are_as_they_were(self):
        for rows in ([(3, 1), (1, -2)], [(3, 0), (1, 0)], []):
            kept = list(rows)
            with self.assertRaises(NoTable):
                table_of(rows)
            self.assertEqual(rows, kept)

    def test_a_change_of_a_told_table_changes_nothing_told_otherwise(self):
        rows = [(1, 1), (2, 1)]
        expected = [(1, (1, 2)), (2, (1, 2))]
        first = table_of(rows)
        second = table_of(rows)
        first.append("more")
        self.assertEqual(second, expected)
        self.assertEqual(table_of(rows), expected)
        self.assertEqual(rows, [(1, 1), (2, 1)])
        sums = added(second, NOTHING)
        sums.clear()
        self.assertEqual(second, expected)
        self.assertEqual(added(second, NOTHING), expected)
        self.assertEqual(added(NOTHING, second), expected)

    def test_a_change_of_a_handed_in_list_changes_nothing_told(self):
        rows = [(1, 1), (2, 1)]
        table = table_of(rows)
        rows[0] = (9, 9)
        rows.append((5, 5))
        self.assertEqual(table, [(1, (1, 2)), (2, (1, 2))])
        one = list(SIX)
        alone = list(NOTHING)
        sums = added(one, alone)
        turned = added(alone, one)
        one.clear()
        alone.clear()
        self.assertEqual(sums, SIX)
        self.assertEqual(turned, SIX)


if __name__ == "__main__":
    unittest.main()
