import copy
import random
import unittest
from fractions import Fraction

from boards import all_picks, as_share, ending_board, goals_of, renumbered, ring_of, some_picks, some_share

from pressluck.best import best
from pressluck.worths import worths_of


def end(top, bottom=1):
    return ("end", (top, bottom))


# On these, picks that both persons better at once come round to where they began, again and again.
WHIRLS = [
    [end(1), end(0), ("throw", (-4, 1), [(13, 3), (92, 7), (1, 0)]), ("throw", (3, 1), [(63, 2), (54, 10), (1, 1)]),
     ("throw", (0, 1), [(64, 5), (49, 10), (50, 1)]), ("throw", (4, 1), [(30, 4), (19, 10), (5, 0)]),
     ("throw", (0, 1), [(99, 8), (7, 3), (1, 0)]), ("pick", 1, [6, 3]), ("pick", 2, [5, 0]), ("pick", 1, [0, 2]),
     ("pick", 2, [0, 2])],
    [end(1), end(0), ("throw", (0, 1), [(3, 1), (93, 6), (1, 1)]), ("throw", (-1, 1), [(57, 9), (22, 5), (1, 1)]),
     ("throw", (-4, 1), [(56, 2), (62, 1), (1, 1)]), ("throw", (0, 1), [(70, 7), (5, 0)]), ("pick", 1, [5, 3]),
     ("pick", 2, [4, 2]), ("pick", 1, [2, 2]), ("pick", 2, [1, 2])],
    [end(1), end(0), ("throw", (-1, 1), [(32, 8), (1, 1)]), ("throw", (0, 1), [(12, 6), (5, 0)]),
     ("throw", (-4, 1), [(98, 7), (74, 0), (1, 0)]), ("throw", (4, 1), [(63, 7), (1, 0)]), ("pick", 1, [4, 0]),
     ("pick", 2, [2, 3]), ("pick", 1, [5, 0])],
    [end(1), end(0), ("throw", (2, 1), [(65, 6), (1, 1)]), ("throw", (0, 1), [(87, 9), (81, 3), (5, 1)]),
     ("throw", (0, 1), [(2, 3), (72, 7), (1, 0)]), ("throw", (-5, 1), [(29, 2), (5, 1)]), ("pick", 1, [4, 3]),
     ("pick", 2, [5, 0]), ("pick", 1, [0, 1]), ("pick", 2, [2, 1])],
]


def fitting(place, worths):
    """What the place is worth by the worths of where it leads."""
    if place[0] == "end":
        return Fraction(*place[1])
    if place[0] == "throw":
        total = sum(weight for weight, to in place[2])
        return Fraction(*place[1]) + sum(Fraction(weight, total) * worths[to] for weight, to in place[2])
    return (max if place[1] == 1 else min)(worths[to] for to in place[2])


def fractions(shares):
    return [Fraction(*share) for share in shares]


def with_gains(board, change):
    """The board with all pays and ends' worths changed; change is asked with the kind and the share."""
    return [place if place[0] == "pick" else (place[0], as_share(change(place[0], Fraction(*place[1])))) + place[2:]
            for place in board]


def with_persons_changed(board):
    return [("pick", 3 - place[1], place[2]) if place[0] == "pick" else place for place in board]


def round_board(source, size, picks, ways):
    """A part of throws and picks that go round, with the ends of the board out of it."""
    board = [("end", some_share(source)) for number in range(3)]
    for number in range(3, size):
        if number < size - picks:
            to = [source.randrange(3, size) for way in range(ways)] + [3 + (number - 2) % (size - 3)]
            weights = [(source.randint(1, 5), goal) for goal in to] + [(1, source.randrange(3))]
            board.append(("throw", some_share(source), weights))
        else:
            board.append(("pick", source.choice((1, 2)), [source.randrange(size - picks), 3]))
    board[3] = ("throw", board[3][1], board[3][2] + [(1, number) for number in range(size - picks, size)])
    return board


class BestCase(unittest.TestCase):
    def assert_best(self, board):
        told = best(board)
        self.assertEqual([type(told), type(told[0]), type(told[1]), len(told)], [tuple, list, list, 2])
        worths = fractions(told[0])
        picks = told[1]
        self.assertEqual((len(worths), len(picks)), (len(board), len(board)))
        for number, place in enumerate(board):
            self.assertEqual(told[0][number], as_share(worths[number]))
            self.assertEqual(worths[number], fitting(place, worths), f"place {number}")
            if place[0] == "pick":
                leads = [worths[to] for to in goals_of(place)]
                self.assertEqual(picks[number], leads.index(worths[number]))
            else:
                self.assertIsNone(picks[number])
        self.assertEqual(worths_of(board, picks), told[0])
        return told

    def assert_none_brings_more(self, board):
        worths, picks = self.assert_best(board)
        for other in all_picks(board, (1,), picks):
            for brought, worth in zip(fractions(worths_of(board, other)), fractions(worths)):
                self.assertLessEqual(brought, worth)
        for other in all_picks(board, (2,), picks):
            for brought, worth in zip(fractions(worths_of(board, other)), fractions(worths)):
                self.assertGreaterEqual(brought, worth)


class TestBest(BestCase):
    def test_ends(self):
        self.assertEqual(best([end(-3, 2)]), ([(-3, 2)], [None]))
        self.assertEqual(best([end(5), end(0)]), ([(5, 1), (0, 1)], [None, None]))

    def test_person_1_takes_the_greatest_and_person_2_the_least(self):
        ends = [end(3), end(-1, 2), end(7, 2)]
        self.assertEqual(best([("pick", 1, [1, 2, 3])] + ends), ([(7, 2), (3, 1), (-1, 2), (7, 2)], [2] + [None] * 3))
        self.assertEqual(best([("pick", 2, [1, 2, 3])] + ends), ([(-1, 2), (3, 1), (-1, 2), (7, 2)], [1] + [None] * 3))

    def test_the_first_of_the_ways_of_just_its_worth(self):
        ends = [end(1), end(4), end(4)]
        for who, expected in ((1, 1), (2, 0)):
            board = [("pick", who, [1, 2, 3, 2])] + ends
            self.assertEqual(best(board)[1][0], expected)
        self.assertEqual(best([("pick", 1, [1, 3, 2, 2])] + ends)[1][0], 1)
        self.assertEqual(best([("pick", 2, [2, 3, 1, 1])] + ends)[1][0], 2)
        self.assertEqual(best([("pick", 2, [2, 3, 2, 3])] + ends)[1][0], 0)

    def test_a_pick_goes_on_as_long_as_it_pays(self):
        for keep, expected, way in (((1, 1), (2, 1), 1), ((3, 1), (3, 1), 0), ((2, 1), (2, 1), 0)):
            board = [("pick", 1, [2, 1]), ("throw", (1, 1), [(1, 0), (1, 3)]), ("end", keep), end(0)]
            told = best(board)
            self.assertEqual((told[0][0], told[1][0]), (expected, way))

    def test_a_way_back_of_the_same_worth_is_first(self):
        board = [("pick", 1, [1, 2]), ("throw", (0, 1), [(1, 0), (1, 2)]), end(5)]
        self.assertEqual(best(board), ([(5, 1)] * 3, [0, None, None]))

    def test_both_persons_go_round_through_throws(self):
        board = [("throw", (1, 1), [(1, 1), (1, 2), (1, 4)]), ("pick", 1, [0, 3]), ("pick", 2, [3, 0]), end(2), end(0)]
        self.assertEqual(best(board), ([(5, 2), (5, 2), (2, 1), (2, 1), (0, 1)], [None, 0, 0, None, None]))
        board[3] = end(4)
        self.assertEqual(best(board), ([(7, 2), (4, 1), (7, 2), (4, 1), (0, 1)], [None, 1, 1, None, None]))

    def test_a_hair_apart(self):
        board = [("pick", 1, [1, 2]), end(999998, 999999), end(999999, 1000000), ("pick", 2, [2, 1])]
        self.assertEqual(best(board)[1], [1, None, None, 1])


class TestMany(BestCase):
    def test_none_brings_more_on_small_boards(self):
        source = random.Random(141)
        tried = 0
        while tried < 120:
            board = ending_board(source, source.randint(2, 10), source.choice((1, 2, 3)), source.choice((0.4, 0.6)))
            if len(all_picks(board)) <= 60:
                tried += 1
                self.assert_none_brings_more(board)

    def test_none_brings_more_where_picks_go_round(self):
        source = random.Random(142)
        for turn in range(25):
            board = round_board(source, source.randint(9, 13), 5, 2)
            self.assertEqual(ring_of(board), [])
            self.assert_none_brings_more(board)

    def test_boards_on_which_picks_bettered_at_once_go_round(self):
        for board in WHIRLS:
            self.assert_none_brings_more(board)
            self.assert_none_brings_more(with_persons_changed(with_gains(board, lambda kind, gain: -gain)))

    def test_many_boards(self):
        source = random.Random(143)
        for turn in range(150):
            self.assert_best(ending_board(source, source.randint(1, 18), source.choice((1, 3)), source.choice((0.2, 0.5))))

    def test_places_in_any_order(self):
        source = random.Random(144)
        for turn in range(30):
            board = ending_board(source, 10)
            numbers = list(range(10))
            source.shuffle(numbers)
            worths, picks = best(board)
            turned = best(renumbered(board, numbers))
            self.assertEqual([turned[0][number] for number in numbers], worths)
            self.assertEqual([turned[1][number] for number in numbers], picks)


class TestGreat(BestCase):
    def test_long_chains(self):
        board = [end(1, 3), end(-5)]
        for number in range(2, 120):
            if number % 3 == 0:
                board.append(("throw", (1, number), [(2, number - 1), (1, 0), (1, number // 2)]))
            else:
                board.append(("pick", number % 3, [number - 1, number - 2, number // 2, 1]))
        self.assert_best(board)
        self.assert_best([("pick", 1 + number % 2, [number + 1] * 4) for number in range(119)] + [end(7)])

    def test_parts_of_40_places_with_12_picks(self):
        source = random.Random(145)
        board = [end(1), end(-1), end(0)]
        for low in (3, 42, 81):
            size = 39
            for spot in range(27):
                ways = [(source.randint(1, 9999), low + source.randrange(size)) for way in range(97)]
                ways.append((source.randint(1, 9999), low + (spot + 1) % 27))
                ways.append((1, source.randrange(low)))
                pay = Fraction(source.randint(-10 ** 12 + 1, 10 ** 12 - 1), source.randint(1, 10 ** 6))
                board.append(("throw", as_share(pay), ways))
            for spot in range(12):
                board.append(("pick", 1 + spot % 2, [low + source.randrange(27) for way in range(2)]))
        self.assertEqual(len(board), 120)
        self.assert_best(board)

    def test_many_picks_in_a_sparse_part(self):
        source = random.Random(146)
        for turn in range(10):
            self.assert_best(round_board(source, 43, 12, 2))

    def test_120_places_of_many_small_parts(self):
        source = random.Random(147)
        board = [end(source.randint(-9, 9)) for number in range(3)]
        while len(board) < 120:
            low = len(board)
            board.append(("throw", some_share(source), [(1, low + 1), (1, low + 2), (1, source.randrange(low))]))
            board.append(("pick", 1, [low, source.randrange(low), low + 2]))
            board.append(("pick", 2, [source.randrange(low), low]))
        self.assertEqual(len(board), 120)
        self.assert_best(board)


class TestChanged(BestCase):
    def boards(self, seed):
        source = random.Random(seed)
        for turn in range(40):
            yield source, ending_board(source, source.randint(1, 12), source.choice((1, 3)), 0.4)

    def test_ends_raised_by_one_share(self):
        for source, board in self.boards(151):
            more = Fraction(source.randint(-9, 9), source.randint(1, 9))
            raised = with_gains(board, lambda kind, gain: gain + more if kind == "end" else gain)
            self.assertEqual(fractions(best(raised)[0]), [worth + more for worth in fractions(best(board)[0])])

    def test_ends_raised_by_shares_from_0_to_d(self):
        for source, board in self.boards(152):
            most = Fraction(source.randint(1, 20), 3)
            raised = with_gains(
                board, lambda kind, gain: gain + most * Fraction(source.randint(0, 4), 4) if kind == "end" else gain)
            for worth, higher in zip(fractions(best(board)[0]), fractions(best(raised)[0])):
                self.assertLessEqual(worth, higher)
                self.assertLessEqual(higher, worth + most)

    def test_pays_and_ends_multiplied(self):
        for source, board in self.boards(153):
            for factor in (Fraction(0), Fraction(1, 3), Fraction(source.randint(1, 20), 7)):
                greater = with_gains(board, lambda kind, gain: gain * factor)
                self.assertEqual(fractions(best(greater)[0]), [worth * factor for worth in fractions(best(board)[0])])

    def test_signs_and_persons_changed(self):
        for source, board in self.boards(154):
            turned = with_persons_changed(with_gains(board, lambda kind, gain: -gain))
            worths, picks = best(board)
            self.assertEqual(best(turned), ([(-worth[0], worth[1]) for worth in worths], picks))


class TestApart(BestCase):
    def test_what_is_handed_in_is_as_it_was(self):
        source = random.Random(148)
        for turn in range(30):
            board = ending_board(source, 10)
            kept = copy.deepcopy(board)
            best(board)
            self.assertEqual(board, kept)

    def test_a_change_of_what_was_told_changes_nothing_told_otherwise(self):
        board = [("pick", 1, [2, 1]), ("throw", (1, 1), [(1, 0), (1, 3)]), end(1), end(0)]
        first = best(board)
        second = best(board)
        first[0].clear()
        first[1][0] = 9
        first[1].clear()
        self.assertEqual(second, ([(2, 1), (2, 1), (1, 1), (0, 1)], [1, None, None, None]))
        self.assertEqual(best(board), second)

    def test_a_change_of_what_was_handed_in_changes_nothing_told(self):
        board = [("pick", 1, [2, 1]), ("throw", (1, 1), [(1, 0), (1, 3)]), end(1), end(0)]
        told = best(board)
        board[0][2].clear()
        board[1][2].append((1, 2))
        board.pop()
        self.assertEqual(told, ([(2, 1), (2, 1), (1, 1), (0, 1)], [1, None, None, None]))

    def test_worths_under_other_picks_are_no_part_of_the_told_ones(self):
        source = random.Random(149)
        board = ending_board(source, 12)
        told = best(board)
        kept = copy.deepcopy(told)
        worths_of(board, some_picks(source, board))
        best(with_persons_changed(board))
        self.assertEqual(told, kept)
        self.assertEqual(best(board), kept)


if __name__ == "__main__":
    unittest.main()
