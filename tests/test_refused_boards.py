"""What is refused of a board, by all that tells worths, visits or a way to play alike."""

import copy
import random
import unittest

from boards import ring_of, some_board

from pressluck.best import best
from pressluck.errors import NoEnd, TooMany
from pressluck.worths import visits, worths_of

END = ("end", (1, 1))
GOOD = [("pick", 1, [1, 2]), ("throw", (1, 1), [(1, 0), (1, 2)]), ("end", (0, 1))]


def throw(*to):
    return ("throw", (0, 1), [(1, goal) for goal in to])


def first_picks(board):
    return [0 if place[0] == "pick" else None for place in board]


ASKED = {
    "best": best,
    "worths_of": lambda board: worths_of(board, first_picks(board)),
    "visits": lambda board: visits(board, first_picks(board), 0),
}


def around(size):
    """A part of so many throws, and an end."""
    return [throw((number + 1) % size, size) for number in range(size)] + [END]


def hub(sizes, inside=1):
    """A part of a throw and picks of so many ways, of which inside ones stay in the part."""
    last = len(sizes) + 1
    board = [throw(*range(1, last + 1))]
    board.extend(("pick", 1 + size % 2, ([0] * inside + [last] * size)[:size]) for size in sizes)
    return board + [END]


class RefusedCase(unittest.TestCase):
    def assert_no_end(self, board, places):
        for name, asked in ASKED.items():
            with self.subTest(name):
                with self.assertRaises(NoEnd) as caught:
                    asked(board)
                self.assertEqual(caught.exception.places, places)
                self.assertIs(type(caught.exception.places), list)

    def assert_too_many(self, board):
        for name, asked in ASKED.items():
            with self.subTest(name), self.assertRaises(TooMany):
                asked(board)

    def assert_answered(self, board):
        for name, asked in ASKED.items():
            with self.subTest(name):
                asked(board)

    def assert_good_is_answered(self):
        self.assertEqual(best(GOOD), ([(2, 1), (2, 1), (0, 1)], [0, None, None]))
        self.assertEqual(worths_of(GOOD, [1, None, None]), [(0, 1), (1, 1), (0, 1)])
        self.assertEqual(visits(GOOD, [0, None, None], 0), [(2, 1), (2, 1), (1, 1)])


class TestNoEnd(RefusedCase):
    def test_named_ones(self):
        self.assert_no_end([throw(0)], [0])
        self.assert_no_end([("pick", 1, [1, 0]), END], [0])
        self.assert_no_end([END, throw(0, 2), ("pick", 2, [0, 4]), throw(0), ("pick", 1, [2, 0])], [2, 4])

    def test_a_ring_that_the_told_picks_would_leave_is_refused_all_the_same(self):
        board = [("pick", 1, [1, 0]), END]
        with self.assertRaises(NoEnd):
            worths_of(board, [0, None])
        with self.assertRaises(NoEnd):
            visits(board, [0, None], 1)

    def test_also_where_too_many_would_be_due(self):
        for board in (around(41), hub([2] * 13), around(60)):
            size = len(board)
            self.assert_no_end(board + [throw(size)], [size])
            self.assert_no_end(board + [("pick", 1, [0, size])], [size])
        self.assert_no_end([throw((number + 1) % 41) for number in range(41)], list(range(41)))

    def test_many_boards(self):
        source = random.Random(161)
        refused = 0
        for turn in range(200):
            board = some_board(source, source.randint(1, 10), 0.3)
            if ring_of(board):
                refused += 1
                self.assert_no_end(board, ring_of(board))
            else:
                self.assert_answered(board)
        self.assertGreater(refused, 50)
        self.assertLess(refused, 190)


class TestTooMany(RefusedCase):
    def test_parts_of_40_and_of_41_places(self):
        self.assert_answered(around(39))
        self.assert_answered(around(40))
        self.assert_too_many(around(41))
        self.assert_too_many(around(119))

    def test_a_great_part_is_found_wherever_it_stands(self):
        board = around(41)
        self.assert_too_many(board + [throw(41)] * 20)
        self.assert_too_many([throw(1), END] + [throw(2 + (number + 1) % 41, 1) for number in range(41)])

    def test_many_parts_of_40_places(self):
        board = [END]
        for low in (1, 41, 80):
            size = min(40, 120 - low)
            board.extend(throw(low + (spot + 1) % size, low - 1) for spot in range(size))
        self.assertGreaterEqual(len(board), 118)
        self.assert_answered(board)

    def test_picks_that_come_to_4096_and_beyond(self):
        for sizes in ([2] * 12, [4] * 6, [4, 4, 2, 2, 2, 2, 4, 4], [3] * 7, [3] * 5 + [2] * 4, [2] * 12 + [1] * 20):
            self.assert_answered(hub(sizes))
        for sizes in ([3] * 7 + [2], [2] * 13, [4] * 7, [4] * 6 + [2], [3] * 8, [4] * 20, [2] * 12 + [1] * 20 + [3]):
            self.assert_too_many(hub(sizes))

    def test_ways_out_of_the_part_and_like_ways_count_too(self):
        for inside in (1, 2, 3, 4):
            self.assert_answered(hub([4] * 6, inside))
            self.assert_too_many(hub([4] * 7, inside))

    def test_the_picks_of_one_part_alone_are_multiplied(self):
        chain = [("pick", 1 + number % 2, [number + 1] * 4) for number in range(119)] + [END]
        self.assert_answered(chain)
        first = hub([4] * 6)
        size = len(first)
        second = [throw(*range(size, 2 * size))] + [("pick", 2, [size, 0, 0, 0])] * 6 + [throw(size, 0)]
        self.assert_answered(first + second)
        joined = list(first)
        joined[0] = throw(*range(1, size + 1))
        self.assert_too_many(joined + second)

    def test_picks_of_a_part_that_are_both_persons_are_multiplied_together(self):
        board = hub([2] * 13)
        for who in (1, 2):
            self.assert_too_many([("pick", who, place[2]) if place[0] == "pick" else place for place in board])


class TestBehind(RefusedCase):
    def test_a_good_board_is_answered_behind_a_refusal(self):
        for turn in range(2):
            self.assert_no_end([throw(0)], [0])
            self.assert_good_is_answered()
            self.assert_too_many(around(41))
            self.assert_good_is_answered()
            self.assert_too_many(hub([2] * 13))
            self.assert_good_is_answered()

    def test_refused_boards_are_as_they_were(self):
        for board in ([throw(0), ("pick", 1, [0])], around(41), hub([2] * 13)):
            kept = copy.deepcopy(board)
            for asked in ASKED.values():
                with self.assertRaises((NoEnd, TooMany)):
                    asked(board)
                self.assertEqual(board, kept)

    def test_a_change_of_the_told_ring_changes_nothing_told_otherwise(self):
        board = [throw(1), throw(0), END]
        for asked in ASKED.values():
            with self.assertRaises(NoEnd) as caught:
                asked(board)
            caught.exception.places.clear()
            self.assert_no_end(board, [0, 1])


if __name__ == "__main__":
    unittest.main()
