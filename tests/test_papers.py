import copy
import random
import unittest
from fractions import Fraction

from boards import all_picks, as_share, ending_board, some_board, some_picks, some_share

from pressluck.best import best
from pressluck.papers import misfits, slips
from pressluck.worths import visits, worths_of

END = ("end", (1, 2))
# Place 0 and 1 go round; place 1 brings 1 each time, and ends by one half.
ROUND = [("pick", 1, [2, 1]), ("throw", (1, 1), [(1, 0), (1, 3)]), ("end", (1, 1)), ("end", (0, 1))]
ROUND_WORTHS = [(2, 1), (2, 1), (1, 1), (0, 1)]


def around(size):
    """A part of so many throws, and an end."""
    return [("throw", (0, 1), [(1, (number + 1) % size), (1, size)]) for number in range(size)] + [END]


def misfits_by_fractions(board, worths):
    worths = [Fraction(*worth) for worth in worths]
    found = []
    for number, place in enumerate(board):
        if place[0] == "end":
            due = Fraction(*place[1])
        elif place[0] == "throw":
            total = sum(weight for weight, to in place[2])
            due = Fraction(*place[1]) + sum(worths[to] * Fraction(weight, total) for weight, to in place[2])
        else:
            due = (max if place[1] == 1 else min)(worths[to] for to in place[2])
        if worths[number] != due:
            found.append(number)
    return found


def slips_by_fractions(board, worths, picks):
    return [as_share(Fraction(*worths[number]) - Fraction(*worths[place[2][picks[number]]])) if place[0] == "pick"
            else (0, 1) for number, place in enumerate(board)]


class TestMisfits(unittest.TestCase):
    def test_worths_that_fit(self):
        self.assertEqual(misfits(ROUND, ROUND_WORTHS), [])
        self.assertEqual(misfits([END], [(1, 2)]), [])
        self.assertIs(type(misfits([END], [(1, 2)])), list)

    def test_worths_that_do_not_fit_at_one_place(self):
        self.assertEqual(misfits([END], [(1, 3)]), [0])
        self.assertEqual(misfits([END, END, END], [(1, 2), (2, 1), (1, 2)]), [1])
        self.assertEqual(misfits([("pick", 1, [1, 2]), END, ("end", (0, 1))], [(0, 1), (1, 2), (0, 1)]), [0])
        self.assertEqual(misfits([("pick", 2, [1, 2]), END, ("end", (0, 1))], [(1, 2), (1, 2), (0, 1)]), [0])
        self.assertEqual(misfits([("throw", (1, 1), [(1, 1), (2, 2)]), END, ("end", (2, 1))],
                                 [(3, 2), (1, 2), (2, 1)]), [0])

    def test_worths_that_fit_just_so(self):
        self.assertEqual(misfits([("pick", 1, [1, 2]), END, ("end", (0, 1))], [(1, 2), (1, 2), (0, 1)]), [])
        self.assertEqual(misfits([("pick", 2, [1, 2]), END, ("end", (0, 1))], [(0, 1), (1, 2), (0, 1)]), [])
        self.assertEqual(misfits([("throw", (1, 1), [(1, 1), (2, 2)]), END, ("end", (2, 1))],
                                 [(5, 2), (1, 2), (2, 1)]), [])

    def test_worths_that_do_not_fit_at_several(self):
        self.assertEqual(misfits(ROUND, [(0, 1)] * 4), [1, 2])
        self.assertEqual(misfits(ROUND, [(2, 1), (2, 1), (3, 1), (0, 1)]), [0, 2])
        self.assertEqual(misfits(ROUND, [(1, 1), (1, 1), (3, 1), (5, 1)]), [0, 1, 2, 3])
        self.assertEqual(misfits([END] * 5, [(0, 1), (1, 2), (0, 1), (1, 2), (0, 1)]), [0, 2, 4])

    def test_a_hair_apart(self):
        great = (10 ** 1400 + 1, 10 ** 1399)
        for other in ((10 ** 1400, 10 ** 1399), (10 ** 1400 + 2, 10 ** 1399), (10 ** 1401 + 11, 10 ** 1400)):
            board = [("pick", 1, [1, 2]), ("throw", (0, 1), [(1, 1), (5, 2)]), ("end", (10, 1))]
            self.assertEqual(misfits(board, [great, great, great]), [2])
            self.assertEqual(misfits(board, [great, great, other]), misfits_by_fractions(board, [great, great, other]))
            self.assertIn(1, misfits(board, [great, great, other]))

    def test_many_boards_against_fractions(self):
        source = random.Random(201)
        fitting = 0
        for turn in range(300):
            board = ending_board(source, source.randint(1, 10)) if turn % 2 else some_board(source, source.randint(1, 10))
            worths = [some_share(source) for place in board]
            if turn % 2:
                worths = best(board)[0]
                for change in range(source.choice((0, 1, 1, 3))):
                    worths[source.randrange(len(board))] = some_share(source)
            self.assertEqual(misfits(board, worths), misfits_by_fractions(board, worths))
            fitting += misfits(board, worths) == []
        self.assertGreater(fitting, 20)

    def test_the_worths_that_fit_are_told_so_and_no_other_list_is(self):
        source = random.Random(202)
        for turn in range(60):
            board = ending_board(source, source.randint(1, 12))
            worths = best(board)[0]
            self.assertEqual(misfits(board, worths), [])
            spot = source.randrange(len(board))
            worths[spot] = as_share(Fraction(*worths[spot]) + source.choice((-1, 1)) * Fraction(1, 10 ** 9))
            self.assertNotEqual(misfits(board, worths), [])

    def test_worths_under_best_picks_and_under_others(self):
        source = random.Random(203)
        for turn in range(60):
            board = ending_board(source, source.randint(2, 10), 2, 0.6)
            picks = some_picks(source, board)
            worths = worths_of(board, picks)
            self.assertEqual(misfits(board, worths), misfits_by_fractions(board, worths))
            for number in misfits(board, worths):
                self.assertEqual(board[number][0], "pick")
            self.assertEqual(misfits(board, worths) == [], worths == best(board)[0])


class TestRefusedNothing(unittest.TestCase):
    def test_boards_with_a_ring(self):
        board = [("pick", 1, [0, 1]), END, ("throw", (0, 1), [(1, 2)]), ("throw", (1, 1), [(1, 3)])]
        self.assertEqual(misfits(board, [(7, 1), (1, 2), (9, 1), (0, 1)]), [3])
        self.assertEqual(misfits(board, [(0, 1), (1, 2), (9, 1), (5, 1)]), [0, 3])
        self.assertEqual(slips(board, [(7, 1), (1, 2), (9, 1), (0, 1)], [1, None, None, None]),
                         [(13, 2), (0, 1), (0, 1), (0, 1)])
        self.assertEqual(slips(board, [(7, 1), (1, 2), (9, 1), (0, 1)], [0, None, None, None]), [(0, 1)] * 4)

    def test_boards_with_parts_that_are_too_great(self):
        for size in (41, 119):
            self.assertEqual(misfits(around(size), [(1, 2)] * (size + 1)), [])
            self.assertEqual(misfits(around(size), [(1, 2)] * size + [(1, 1)]), list(range(size + 1)))
            self.assertEqual(slips(around(size), [(1, 2)] * (size + 1), [None] * (size + 1)), [(0, 1)] * (size + 1))

    def test_boards_with_too_many_picks(self):
        board = [("throw", (0, 1), [(1, number) for number in range(1, 15)])]
        board += [("pick", 1 + number % 2, [0, 14]) for number in range(13)] + [END]
        self.assertEqual(misfits(board, [(1, 2)] * 15), [])
        worths = [(1, 1)] + [(1, 2)] * 14
        self.assertEqual(misfits(board, worths), [0, 1, 3, 5, 7, 9, 11, 13])
        self.assertEqual(slips(board, worths, [None] + [0] * 13 + [None]), [(0, 1)] + [(-1, 2)] * 13 + [(0, 1)])


class TestSlips(unittest.TestCase):
    def test_named_ones(self):
        self.assertEqual(slips(ROUND, ROUND_WORTHS, [1, None, None, None]), [(0, 1)] * 4)
        self.assertEqual(slips(ROUND, ROUND_WORTHS, [0, None, None, None]), [(1, 1), (0, 1), (0, 1), (0, 1)])
        self.assertEqual(slips([END], [(5, 1)], [None]), [(0, 1)])
        self.assertIs(type(slips([END], [(5, 1)], [None])), list)

    def test_of_person_2(self):
        board = [("pick", 2, [1, 2, 3]), ("end", (1, 3)), ("end", (-2, 1)), ("end", (5, 1))]
        worths = best(board)[0]
        self.assertEqual([slips(board, worths, [way, None, None, None])[0] for way in range(3)],
                         [(-7, 3), (0, 1), (-7, 1)])

    def test_by_any_worths(self):
        worths = [(1, 2), (1, 3), (3, 1), (0, 1)]
        self.assertEqual(slips(ROUND, worths, [0, None, None, None]), [(-5, 2), (0, 1), (0, 1), (0, 1)])
        self.assertEqual(slips(ROUND, worths, [1, None, None, None]), [(1, 6), (0, 1), (0, 1), (0, 1)])

    def test_many_boards_against_fractions(self):
        source = random.Random(204)
        for turn in range(200):
            board = some_board(source, source.randint(1, 10), 0.2, 0.6)
            worths = [some_share(source) for place in board]
            picks = some_picks(source, board)
            self.assertEqual(slips(board, worths, picks), slips_by_fractions(board, worths, picks))


class TestByTheWorthsThatFit(unittest.TestCase):
    def assert_even(self, board, picks):
        worths = best(board)[0]
        told = slips(board, worths, picks)
        under = worths_of(board, picks)
        for number, place in enumerate(board):
            if place[0] == "pick" and place[1] == 1:
                self.assertGreaterEqual(told[number][0], 0)
            elif place[0] == "pick":
                self.assertLessEqual(told[number][0], 0)
            else:
                self.assertEqual(told[number], (0, 1))
        for start in range(len(board)):
            lost = sum(Fraction(*often) * Fraction(*slip) for often, slip in zip(visits(board, picks, start), told))
            self.assertEqual(Fraction(*worths[start]) - Fraction(*under[start]), lost)
        return told

    def test_all_picks_of_small_boards(self):
        source = random.Random(205)
        tried = 0
        while tried < 40:
            board = ending_board(source, source.randint(2, 8), 2, 0.5)
            if len(all_picks(board)) <= 30:
                tried += 1
                for picks in all_picks(board):
                    self.assert_even(board, picks)

    def test_some_picks_of_greater_boards(self):
        source = random.Random(206)
        for turn in range(20):
            board = ending_board(source, 20, 3, 0.5)
            self.assert_even(board, some_picks(source, board))

    def test_best_picks_have_no_slip(self):
        source = random.Random(207)
        for turn in range(40):
            board = ending_board(source, 12, 2, 0.5)
            self.assertEqual(self.assert_even(board, best(board)[1]), [(0, 1)] * 12)


class TestApart(unittest.TestCase):
    def test_what_is_handed_in_is_as_it_was(self):
        source = random.Random(208)
        for turn in range(30):
            board = some_board(source, 8)
            worths = [some_share(source) for place in board]
            picks = some_picks(source, board)
            kept = copy.deepcopy((board, worths, picks))
            misfits(board, worths)
            slips(board, worths, picks)
            self.assertEqual((board, worths, picks), kept)

    def test_a_change_of_what_was_told_changes_nothing_told_otherwise(self):
        worths = [(0, 1)] * 4
        misfits(ROUND, worths).clear()
        slips(ROUND, worths, [0, None, None, None]).clear()
        self.assertEqual(misfits(ROUND, worths), [1, 2])
        self.assertEqual(slips(ROUND, worths, [0, None, None, None]), [(0, 1)] * 4)
        self.assertEqual(worths, [(0, 1)] * 4)

    def test_a_change_of_what_was_handed_in_changes_nothing_told(self):
        board = copy.deepcopy(ROUND)
        worths = list(ROUND_WORTHS)
        picks = [0, None, None, None]
        told = (misfits(board, worths), slips(board, worths, picks))
        board[0][2].clear()
        worths.clear()
        picks[0] = 1
        self.assertEqual(told, ([], [(1, 1), (0, 1), (0, 1), (0, 1)]))


if __name__ == "__main__":
    unittest.main()
