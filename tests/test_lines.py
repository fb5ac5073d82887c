import copy
import itertools
import math
import random
import unittest
from fractions import Fraction

from pressluck.lines import solved, whole_answers


def determinant(rows):
    """By all orders of the columns."""
    total = 0
    for order in itertools.permutations(range(len(rows))):
        turns = sum(1 for one, other in itertools.combinations(order, 2) if one > other)
        total += (-1) ** turns * math.prod(row[column] for row, column in zip(rows, order))
    return total


def some_rows(source, size, most):
    return [[source.randint(-most, most) for column in range(size)] for row in range(size)]


class LineCase(unittest.TestCase):
    def assert_one(self, rows, right):
        told = solved(rows, right)
        self.assertIs(type(told), tuple)
        self.assertEqual((len(told), told[0]), (2, "one"))
        self.assertIs(type(told[1]), list)
        self.assertEqual(len(told[1]), len(rows))
        for share in told[1]:
            self.assertEqual([type(share), type(share[0]), type(share[1])], [tuple, int, int])
            self.assertGreaterEqual(share[1], 1)
            self.assertEqual(math.gcd(share[0], share[1]), 1)
        for row, side in zip(rows, right):
            self.assertEqual(sum(number * Fraction(*share) for number, share in zip(row, told[1])), side)
        return told[1]

    def assert_bent(self, rows, right):
        told = solved(rows, right)
        self.assertIs(type(told), tuple)
        self.assertEqual((len(told), told[0]), (2, "bent"))
        self.assertIs(type(told[1]), list)
        self.assertEqual(len(told[1]), len(rows))
        for factor in told[1]:
            self.assertIs(type(factor), int)
        self.assertTrue(any(told[1]))
        for column in range(len(rows)):
            self.assertEqual(sum(factor * row[column] for factor, row in zip(told[1], rows)), 0)


class TestOne(LineCase):
    def test_one_row(self):
        self.assertEqual(solved([[2]], [6]), ("one", [(3, 1)]))
        self.assertEqual(solved([[-4]], [6]), ("one", [(-3, 2)]))
        self.assertEqual(solved([[5]], [0]), ("one", [(0, 1)]))
        self.assert_one([[999999999999]], [-999999999998])

    def test_named_ones(self):
        self.assertEqual(solved([[1, 1], [1, -1]], [3, 1]), ("one", [(2, 1), (1, 1)]))
        self.assertEqual(solved([[2, 1], [1, 3]], [1, 1]), ("one", [(2, 5), (1, 5)]))
        self.assertEqual(solved([[1, 0, 0], [0, 2, 0], [0, 0, 3]], [1, 1, 1]), ("one", [(1, 1), (1, 2), (1, 3)]))

    def test_heads_of_0(self):
        self.assertEqual(solved([[0, 1], [1, 0]], [5, 7]), ("one", [(7, 1), (5, 1)]))
        self.assertEqual(solved([[0, 2], [3, 1]], [4, 5]), ("one", [(1, 1), (2, 1)]))
        self.assert_one([[0, 0, 1], [0, 1, 0], [1, 0, 0]], [1, 2, 3])
        self.assert_one([[1, 1, 1], [1, 1, 2], [1, 2, 1]], [1, 2, 4])

    def test_rows_in_any_order(self):
        rows = [[0, 2, -1, 3], [4, 0, 0, 1], [1, 1, 1, 1], [0, 0, 5, -2]]
        right = [7, -3, 0, 11]
        expected = self.assert_one(rows, right)
        for order in itertools.permutations(range(4)):
            told = solved([rows[number] for number in order], [right[number] for number in order])
            self.assertEqual(told, ("one", expected))
            columns = [[row[number] for number in order] for row in rows]
            self.assertEqual(solved(columns, right), ("one", [expected[number] for number in order]))

    def test_many_rows(self):
        source = random.Random(121)
        for size in list(range(2, 14)) + [20, 31, 40]:
            rows = some_rows(source, size, 9)
            for number in range(size):
                rows[number][number] += 100 * size
            source.shuffle(rows)
            self.assert_one(rows, [source.randint(-50, 50) for row in rows])

    def test_answers_over_one_bottom_have_it_above_0(self):
        for rows in ([[0, 1], [1, 0]], [[1, 0], [0, 1]], [[-3]], [[0, 2], [3, 1]]):
            right = [6] * len(rows)
            tops, bottom = whole_answers(rows, right)
            self.assertGreater(bottom, 0)
            self.assertEqual([Fraction(top, bottom).as_integer_ratio() for top in tops], solved(rows, right)[1])

    def test_right_sides_of_noughts(self):
        self.assertEqual(solved([[3, 1], [1, 2]], [0, 0]), ("one", [(0, 1), (0, 1)]))

    def test_great_numbers(self):
        source = random.Random(122)
        for size in (2, 5, 12, 40):
            rows = some_rows(source, size, 10 ** 12 - 1)
            self.assert_one(rows, [source.randint(-10 ** 12 + 1, 10 ** 12 - 1) for row in rows])

    def test_nearly_bent_rows(self):
        self.assertEqual(solved([[10 ** 11, 10 ** 11 - 1], [10 ** 11 + 1, 10 ** 11]], [1, 1]), ("one", [(1, 1), (-1, 1)]))


class TestBent(LineCase):
    def test_one_row(self):
        for side in (0, 1, -5):
            self.assert_bent([[0]], [side])

    def test_rows_of_noughts(self):
        for right in ([0, 0, 0], [1, 2, 3]):
            self.assert_bent([[0] * 3] * 3, right)
            self.assert_bent([[1, 2, 3], [0, 0, 0], [4, 5, 6]], right)
            self.assert_bent([[0, 0, 0], [1, 2, 3], [4, 5, 7]], right)

    def test_a_column_of_noughts(self):
        self.assert_bent([[0, 1], [0, 2]], [1, 2])
        self.assert_bent([[1, 0, 2], [3, 0, 4], [5, 0, 7]], [1, 1, 1])

    def test_like_rows_whatever_their_right_sides(self):
        for right in ([1, 1, 5], [1, 2, 5], [0, 0, 0]):
            self.assert_bent([[1, 2, 3], [1, 2, 3], [0, 1, 0]], right)
            self.assert_bent([[1, 2, 3], [0, 1, 0], [1, 2, 3]], right)
            self.assert_bent([[1, 2, 3], [0, 1, 0], [-2, -4, -6]], right)

    def test_rows_made_up_of_others(self):
        source = random.Random(123)
        for size in (2, 3, 4, 7, 12, 25, 40):
            rows = some_rows(source, size - 1, 9) if size > 2 else [[4]]
            rows = [row + [source.randint(-9, 9)] for row in rows]
            factors = [source.randint(-5, 5) for row in rows]
            rows.append([sum(factor * row[column] for factor, row in zip(factors, rows)) for column in range(size)])
            for turn in range(3):
                source.shuffle(rows)
                self.assert_bent(rows, [source.randint(-9, 9) for row in rows])

    def test_many_rows_made_up_of_few(self):
        source = random.Random(124)
        for size, few in ((5, 1), (5, 3), (12, 2), (40, 7), (40, 39)):
            base = [[source.randint(-9, 9) for column in range(size)] for row in range(few)]
            rows = []
            for row in range(size):
                factors = [source.randint(-3, 3) for one in base]
                rows.append([sum(factor * one[column] for factor, one in zip(factors, base)) for column in range(size)])
            self.assert_bent(rows, [1] * size)

    def test_great_numbers(self):
        source = random.Random(125)
        rows = some_rows(source, 40, 5 * 10 ** 11 - 1)
        rows[17] = [number - other for number, other in zip(rows[3], rows[30])]
        self.assert_bent(rows, [10 ** 12 - 1] * 40)
        rows[17] = rows[5]
        self.assert_bent(rows, [1] * 40)


class TestSmall(LineCase):
    def test_all_of_two_rows(self):
        for numbers in itertools.product((-2, -1, 0, 1, 3), repeat=4):
            rows = [list(numbers[:2]), list(numbers[2:])]
            if determinant(rows) == 0:
                self.assert_bent(rows, [1, -2])
            else:
                self.assert_one(rows, [1, -2])

    def test_many_of_three_and_four_rows(self):
        source = random.Random(126)
        bent = 0
        for turn in range(800):
            rows = some_rows(source, source.choice((3, 4)), source.choice((1, 2)))
            right = [source.randint(-4, 4) for row in rows]
            if determinant(rows) == 0:
                bent += 1
                self.assert_bent(rows, right)
            else:
                self.assert_one(rows, right)
        self.assertGreater(bent, 100)
        self.assertLess(bent, 700)


class TestApart(LineCase):
    def test_what_is_handed_in_is_as_it_was(self):
        for rows in ([[0, 2], [3, 1]], [[1, 2], [2, 4]], [[0, 0], [0, 0]]):
            right = [4, 5]
            kept = copy.deepcopy((rows, right))
            solved(rows, right)
            self.assertEqual((rows, right), kept)

    def test_a_change_of_what_was_told_changes_nothing_told_otherwise(self):
        for rows in ([[0, 2], [3, 1]], [[1, 2], [2, 4]]):
            right = [4, 5]
            first = solved(rows, right)
            second = solved(rows, right)
            kept = copy.deepcopy(second)
            first[1].clear()
            self.assertEqual(second, kept)
            self.assertEqual(solved(rows, right), kept)

    def test_a_change_of_what_was_handed_in_changes_nothing_told(self):
        rows = [[1]]
        right = [4]
        told = solved(rows, right)
        rows[0][0] = 2
        right[0] = 9
        self.assertEqual(told, ("one", [(4, 1)]))
        self.assertEqual(solved(rows, right), ("one", [(9, 2)]))


if __name__ == "__main__":
    unittest.main()
