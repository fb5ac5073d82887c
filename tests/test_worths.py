import copy
import math
import random
import unittest
from fractions import Fraction

from boards import all_picks, ending_board, some_picks

from pressluck.worths import visits, worths_of


def end(top, bottom=1):
    return ("end", (top, bottom))


def led(place, way):
    """The ways of a place under picks, as (share, to)."""
    if place[0] == "throw":
        total = sum(weight for weight, to in place[2])
        return [(Fraction(weight, total), to) for weight, to in place[2]]
    return [(Fraction(1), place[2][way])] if place[0] == "pick" else []


def got(place):
    return Fraction(0) if place[0] == "pick" else Fraction(*place[1])


class WorthCase(unittest.TestCase):
    def assert_shares(self, shares, size):
        self.assertIs(type(shares), list)
        self.assertEqual(len(shares), size)
        for share in shares:
            self.assertEqual([type(share), type(share[0]), type(share[1])], [tuple, int, int])
            self.assertGreaterEqual(share[1], 1)
            self.assertEqual(math.gcd(share[0], share[1]), 1)

    def assert_worths(self, board, picks):
        told = worths_of(board, picks)
        self.assert_shares(told, len(board))
        worths = [Fraction(*share) for share in told]
        for place, way, worth in zip(board, picks, worths):
            self.assertEqual(worth, got(place) + sum(share * worths[to] for share, to in led(place, way)))
        return worths

    def assert_visits(self, board, picks, start):
        told = visits(board, picks, start)
        self.assert_shares(told, len(board))
        often = [Fraction(*share) for share in told]
        coming = [Fraction(number == start) for number in range(len(board))]
        for place, way, visited in zip(board, picks, often):
            for share, to in led(place, way):
                coming[to] += visited * share
        self.assertEqual(often, coming)
        return often

    def assert_board(self, board, picks, starts=None):
        worths = self.assert_worths(board, picks)
        for start in range(len(board)) if starts is None else starts:
            often = self.assert_visits(board, picks, start)
            self.assertEqual(sum(visited * got(place) for visited, place in zip(often, board)), worths[start])
            over = sum(visited for visited, place in zip(often, board) if place[0] == "end")
            self.assertEqual(over, 1)


class TestWorths(WorthCase):
    def test_ends(self):
        self.assertEqual(worths_of([end(-3, 2)], [None]), [(-3, 2)])
        self.assertEqual(worths_of([end(5), end(0)], [None, None]), [(5, 1), (0, 1)])

    def test_a_throw_gets_its_pay_and_the_mean(self):
        board = [("throw", (1, 2), [(1, 1), (2, 2)]), end(3), end(0)]
        self.assertEqual(worths_of(board, [None] * 3), [(3, 2), (3, 1), (0, 1)])

    def test_a_pick_has_the_worth_of_its_way_whoever_picks(self):
        for who in (1, 2):
            board = [("pick", who, [1, 2, 1]), end(3), end(-1, 4)]
            self.assertEqual(worths_of(board, [0, None, None])[0], (3, 1))
            self.assertEqual(worths_of(board, [1, None, None])[0], (-1, 4))
            self.assertEqual(worths_of(board, [2, None, None])[0], (3, 1))

    def test_a_throw_that_leads_to_itself(self):
        board = [("throw", (1, 1), [(5, 0), (1, 1)]), end(0)]
        self.assertEqual(worths_of(board, [None, None]), [(6, 1), (0, 1)])
        board = [("throw", (-1, 2), [(1, 0), (999998, 0), (1, 1)]), end(7)]
        self.assertEqual(worths_of(board, [None, None]), [(-499993, 1), (7, 1)])

    def test_throws_that_lead_back(self):
        board = [("throw", (0, 1), [(1, 2), (1, 1)]), ("throw", (0, 1), [(1, 0), (1, 3)]), end(0), end(1)]
        self.assertEqual(worths_of(board, [None] * 4), [(1, 3), (2, 3), (0, 1), (1, 1)])

    def test_a_pick_on_the_way_round(self):
        board = [("pick", 1, [2, 1]), ("throw", (1, 1), [(1, 0), (1, 2)]), end(0)]
        self.assertEqual(worths_of(board, [0, None, None]), [(0, 1), (1, 1), (0, 1)])
        self.assertEqual(worths_of(board, [1, None, None]), [(2, 1), (2, 1), (0, 1)])

    def test_several_ways_to_one_place(self):
        board = [("throw", (0, 1), [(1, 1), (1, 2), (1, 1)]), end(3), end(0)]
        self.assertEqual(worths_of(board, [None] * 3)[0], (2, 1))


class TestVisits(WorthCase):
    def test_named_ones(self):
        board = [("throw", (1, 1), [(5, 0), (1, 1)]), end(0), end(9)]
        self.assertEqual(visits(board, [None] * 3, 0), [(6, 1), (1, 1), (0, 1)])
        self.assertEqual(visits(board, [None] * 3, 1), [(0, 1), (1, 1), (0, 1)])
        self.assertEqual(visits(board, [None] * 3, 2), [(0, 1), (0, 1), (1, 1)])

    def test_a_pick_leads_its_picked_way_alone(self):
        board = [("pick", 2, [1, 2]), end(1), end(2)]
        self.assertEqual(visits(board, [0, None, None], 0), [(1, 1), (1, 1), (0, 1)])
        self.assertEqual(visits(board, [1, None, None], 0), [(1, 1), (0, 1), (1, 1)])

    def test_two_ways_that_meet_again(self):
        board = [("throw", (0, 1), [(1, 1), (2, 2)]), ("throw", (0, 1), [(1, 3)]), ("pick", 1, [3]), end(0)]
        self.assertEqual(visits(board, [None, None, 0, None], 0), [(1, 1), (1, 3), (2, 3), (1, 1)])

    def test_throws_that_lead_back(self):
        board = [("throw", (0, 1), [(1, 2), (1, 1)]), ("throw", (0, 1), [(1, 0), (1, 3)]), end(0), end(1)]
        self.assertEqual(visits(board, [None] * 4, 0), [(4, 3), (2, 3), (2, 3), (1, 3)])


class TestMany(WorthCase):
    def test_all_picks_of_small_boards(self):
        source = random.Random(131)
        for turn in range(40):
            board = ending_board(source, source.randint(1, 7))
            for picks in all_picks(board)[:30]:
                self.assert_board(board, picks)

    def test_many_boards(self):
        source = random.Random(132)
        for turn in range(60):
            board = ending_board(source, source.randint(8, 24), source.choice((1, 3)), source.choice((0.1, 0.3)))
            self.assert_board(board, some_picks(source, board), source.sample(range(len(board)), 3))

    def test_long_chains(self):
        board = [end(1, 3)] + [("throw", (1, number + 1), [(1, number), (3, 0)]) for number in range(119)]
        self.assert_board(board, [None] * 120, (0, 1, 60, 119))
        board = [("pick", 1 + number % 2, [number + 1, 119]) for number in range(119)] + [end(-2)]
        self.assert_board(board, [0] * 119 + [None], (0, 118))
        self.assertEqual(visits(board, [0] * 119 + [None], 0), [(1, 1)] * 120)

    def test_great_numbers_in_a_long_chain(self):
        source = random.Random(133)
        board = [end(999999999999, 1000000), end(-999999999999, 999999)]
        for number in range(2, 120):
            pay = Fraction(source.randint(-10 ** 12 + 1, 10 ** 12 - 1), source.randint(1, 10 ** 6)).as_integer_ratio()
            board.append(("throw", pay, [(source.randint(1, 10000), source.randrange(number)) for way in range(100)]))
        self.assert_board(board, [None] * 120, (119,))

    def test_parts_of_40_places_and_100_ways(self):
        source = random.Random(134)
        board = [end(1), end(-1)]
        for low in (2, 42, 82):
            high = min(low + 40, 120)
            for number in range(low, high):
                ways = [(source.randint(1, 9999), source.randrange(low, high)) for way in range(98)]
                ways.append((source.randint(1, 9999), low + (number - low + 1) % (high - low)))
                board.append(("throw", (source.randint(-99, 99), 1), ways + [(1, source.randrange(low))]))
        self.assert_board(board, [None] * 120, (119,))


class TestApart(WorthCase):
    def test_what_is_handed_in_is_as_it_was(self):
        source = random.Random(135)
        for turn in range(20):
            board = ending_board(source, 9)
            picks = some_picks(source, board)
            kept = copy.deepcopy((board, picks))
            worths_of(board, picks)
            visits(board, picks, 4)
            self.assertEqual((board, picks), kept)

    def test_a_change_of_what_was_told_changes_nothing_told_otherwise(self):
        board = [("pick", 1, [1, 2]), ("throw", (1, 1), [(1, 0), (1, 2)]), end(0)]
        picks = [0, None, None]
        for asked in (lambda: worths_of(board, picks), lambda: visits(board, picks, 0)):
            first = asked()
            second = asked()
            kept = list(second)
            first.reverse()
            first.clear()
            self.assertEqual(second, kept)
            self.assertEqual(asked(), kept)

    def test_a_change_of_what_was_handed_in_changes_nothing_told(self):
        board = [("pick", 1, [1, 2]), ("throw", (1, 1), [(1, 0), (1, 2)]), end(0)]
        picks = [0, None, None]
        told = [worths_of(board, picks), visits(board, picks, 0)]
        board[1][2].clear()
        board[0][2].clear()
        board.pop()
        picks.clear()
        self.assertEqual(told, [[(2, 1), (2, 1), (0, 1)], [(2, 1), (2, 1), (1, 1)]])


if __name__ == "__main__":
    unittest.main()
