import copy
import random
import unittest
from fractions import Fraction

from boards import ending_board, renumbered, ring_of, some_board

from pressluck.alike import alike, rounds
from pressluck.best import best


def end(worth):
    return ("end", (worth, 1))


def throw(*ways):
    return ("throw", (0, 1), list(ways))


def chain(length, last, ways=1):
    """Throws, one leading to the next, and an end."""
    return [throw(*[(1, number + 1)] * ways) for number in range(length)] + [end(last)]


def rounds_anew(one, other):
    """By marks made anew in each round, of fractions and sets."""
    size = len(one)
    board = [(place, 0) for place in one] + [(place, size) for place in other]
    marks = [place[:2] for place, ahead in board]
    told = []
    while True:
        met = []
        for mark in marks:
            if mark not in met:
                met.append(mark)
        if told and len(met) == len(set(told[-1])):
            return told
        told.append([met.index(mark) for mark in marks])
        marks = []
        for number, (place, ahead) in enumerate(board):
            mark = {"own": told[-1][number]}
            if place[0] == "throw":
                total = sum(weight for weight, to in place[2])
                for weight, to in place[2]:
                    key = told[-1][to + ahead]
                    mark[key] = mark.get(key, 0) + Fraction(weight, total)
            elif place[0] == "pick":
                mark["ways"] = {told[-1][to + ahead] for to in place[2]}
            marks.append(mark)


def copied(source, board):
    """The board in another order, its ways written otherwise where this changes nothing; and the new numbers."""
    numbers = list(range(len(board)))
    source.shuffle(numbers)
    turned = []
    for place in renumbered(board, numbers):
        if place[0] == "throw":
            factor = source.randint(1, 3)
            ways = [(weight * factor, to) for weight, to in place[2]]
            weight, to = ways.pop()
            ways.extend([(1, to)] + [(weight - 1, to)] * (weight > 1))
            source.shuffle(ways)
            place = ("throw", place[1], ways)
        elif place[0] == "pick":
            ways = list(place[2])
            if len(ways) < 4:
                ways.append(source.choice(ways))
            source.shuffle(ways)
            place = ("pick", place[1], ways)
        turned.append(place)
    return turned, numbers


def with_like_gains(board):
    """All ends and throws bring the same, so that places of boards made apart are alike at times."""
    gains = {"end": ((0, 1),), "throw": ((1, 1),)}
    return [(place[0],) + gains.get(place[0], place[1:2]) + place[2:] for place in board]


class AlikeCase(unittest.TestCase):
    def assert_rounds(self, one, other, due=None):
        told = rounds(one, other)
        self.assertEqual(told, rounds_anew(one, other))
        if due is not None:
            self.assertEqual(told, due)
        self.assertEqual({type(told)} | {type(numbers) for numbers in told}, {list})
        for first in range(len(one)):
            for second in range(len(other)):
                same = alike(one, first, other, second)
                self.assertIs(type(same), bool)
                self.assertEqual(same, told[-1][first] == told[-1][len(one) + second])
        return told


class TestRounds(AlikeCase):
    def test_round_0_by_marks(self):
        one = [end(1), ("end", (1, 2)), ("pick", 1, [0]), ("pick", 2, [0])]
        other = [("throw", (1, 1), [(1, 1)]), end(1), ("pick", 1, [1]), ("pick", 2, [1]), ("throw", (1, 2), [(1, 1)])]
        self.assert_rounds(one, other, [[0, 1, 2, 3, 4, 0, 2, 3, 5]])
        self.assert_rounds([end(0)], [end(0)], [[0, 0]])
        self.assert_rounds([end(0)], [end(1)], [[0, 1]])

    def test_numbers_are_given_as_marks_are_met_first(self):
        self.assert_rounds([end(3), end(2), end(3), end(1)], [end(1), end(0), end(2)], [[0, 1, 0, 2, 2, 3, 1]])

    def test_round_by_round(self):
        self.assert_rounds(chain(3, 0), chain(1, 0), [[0, 0, 0, 1, 0, 1], [0, 0, 1, 2, 1, 2], [0, 1, 2, 3, 2, 3]])
        self.assert_rounds(chain(1, 0), chain(3, 0), [[0, 1, 0, 0, 0, 1], [0, 1, 2, 2, 0, 1], [0, 1, 2, 3, 0, 1]])

    def test_the_last_round_is_the_first_that_does_not_part_any_more(self):
        self.assertEqual(len(rounds(chain(20, 0), chain(20, 0))), 20)
        self.assertEqual(len(rounds(chain(119, 0), chain(119, 0))), 119)
        self.assertEqual(len(rounds([throw((1, 0))], [throw((1, 0))])), 1)
        for length in (1, 2, 9):
            told = self.assert_rounds(chain(length, 0), chain(length, 0))
            self.assertEqual([len(set(numbers)) for numbers in told], list(range(2, length + 2)))

    def test_many_boards(self):
        source = random.Random(261)
        longest = 0
        for turn in range(300):
            board = some_board(source, source.randint(1, 9), 0.2)
            plain = [(place[0], (0, 1)) + place[2:] if place[0] != "pick" else ("pick", 1, place[2]) for place in board]
            other = some_board(source, source.randint(1, 9), 0.2)
            for one in (board, plain):
                longest = max(longest, len(self.assert_rounds(one, other)), len(self.assert_rounds(other, one)))
                self.assert_rounds(one, plain)
        self.assertGreater(longest, 3)


class TestThrows(AlikeCase):
    def same(self, first, second):
        one = [first] + [end(0), end(0), end(1)]
        other = [second] + [end(0), end(1)]
        self.assert_rounds(one, other)
        return alike(one, 0, other, 0)

    def test_ways_that_lead_to_like_places_several_times(self):
        self.assertTrue(self.same(throw((1, 1), (1, 2)), throw((1, 1))))
        self.assertTrue(self.same(throw((1, 1), (1, 2), (2, 3)), throw((1, 1), (1, 2))))
        self.assertTrue(self.same(throw((3, 3), (1, 1), (5, 2)), throw((2, 1), (1, 2))))
        self.assertTrue(self.same(throw((1, 3), (1, 3), (1, 1)), throw((1, 1), (2, 2))))
        self.assertFalse(self.same(throw((1, 1), (1, 2), (1, 3)), throw((1, 1), (1, 2))))
        self.assertFalse(self.same(throw((1, 1), (1, 2)), throw((1, 1), (1, 2))))
        self.assertFalse(self.same(throw((1, 3)), throw((1, 1))))

    def test_shares_count_and_not_weights(self):
        self.assertTrue(self.same(throw((1, 1), (1, 3)), throw((500000, 1), (500000, 2))))
        self.assertTrue(self.same(throw((2, 1), (4, 3)), throw((3, 1), (6, 2))))
        self.assertFalse(self.same(throw((2, 1), (4, 3)), throw((4, 1), (2, 2))))
        self.assertFalse(self.same(throw((499999, 1), (500001, 3)), throw((1, 1), (1, 2))))
        self.assertFalse(self.same(throw((1, 1), (2, 3)), throw((1, 1), (3, 2))))

    def test_the_pay_counts(self):
        self.assertFalse(self.same(("throw", (1, 2), [(1, 1)]), ("throw", (0, 1), [(1, 1)])))
        self.assertTrue(self.same(("throw", (1, 2), [(1, 1)]), ("throw", (1, 2), [(7, 1)])))


class TestPicks(AlikeCase):
    def same(self, first, second):
        one = [first] + [end(0), end(0), end(1)]
        other = [second] + [end(0), end(1)]
        self.assert_rounds(one, other)
        return alike(one, 0, other, 0)

    def test_how_often_does_not_matter(self):
        self.assertTrue(self.same(("pick", 1, [1, 2, 3]), ("pick", 1, [1, 2])))
        self.assertTrue(self.same(("pick", 1, [3, 1, 1, 1]), ("pick", 1, [1, 2, 2, 2])))
        self.assertTrue(self.same(("pick", 2, [1, 2]), ("pick", 2, [1])))
        self.assertTrue(self.same(("pick", 2, [3, 1]), ("pick", 2, [1, 2])))

    def test_where_they_lead_and_who_picks_does(self):
        self.assertFalse(self.same(("pick", 1, [1, 2, 3]), ("pick", 1, [1])))
        self.assertFalse(self.same(("pick", 1, [1, 2]), ("pick", 1, [1, 2])))
        self.assertFalse(self.same(("pick", 1, [1]), ("pick", 1, [2])))
        self.assertFalse(self.same(("pick", 1, [1]), ("pick", 2, [1])))

    def test_kinds_are_unlike(self):
        self.assertFalse(self.same(("pick", 1, [1]), throw((1, 1))))
        self.assertFalse(self.same(("pick", 1, [1]), end(0)))
        self.assertFalse(self.same(throw((1, 1)), end(0)))


class TestAlike(AlikeCase):
    def test_boards_and_their_copies_in_another_order(self):
        source = random.Random(262)
        for turn in range(150):
            board = some_board(source, source.randint(1, 9), 0.2)
            other, numbers = copied(source, board)
            self.assert_rounds(board, other)
            for number in range(len(board)):
                self.assertTrue(alike(board, number, other, numbers[number]))
                self.assertTrue(alike(other, numbers[number], board, number))
                self.assertTrue(alike(board, number, board, number))

    def test_boards_that_part_late(self):
        for length in (1, 5, 40, 119):
            one = chain(length, 0)
            other = chain(length, 1)
            self.assertFalse(any(alike(one, number, other, number) for number in (0, length // 2, length)))
            longer = chain(length + 1, 0) if length < 119 else chain(118, 0)
            self.assertFalse(alike(one, 0, longer, 0))
            self.assertTrue(alike(one, length, longer, len(longer) - 1))

    def test_rings_of_unlike_length_are_alike(self):
        one = [throw((1, (number + 1) % 7)) for number in range(7)]
        other = [("throw", (0, 1), [(3, 0)])]
        self.assert_rounds(one, other, [[0] * 8])
        self.assertFalse(alike([("pick", 1, [0])], 0, other, 0))

    def test_a_board_folded_up(self):
        # Both halves of the one board are the other's.
        one = [throw((1, 1), (1, 2)), ("pick", 1, [0, 3]), ("pick", 1, [4, 0]), end(2), end(2)]
        other = [throw((5, 1)), ("pick", 1, [2, 0]), end(2)]
        self.assert_rounds(one, other)
        self.assertEqual([alike(one, number, other, (0, 1, 1, 2, 2)[number]) for number in range(5)], [True] * 5)

    def test_great_boards(self):
        source = random.Random(263)
        board = [end(0)] + [throw(*[(1, number - 1)] + [(1, source.randrange(number)) for way in range(99)])
                            for number in range(1, 120)]
        other, numbers = copied(source, board)
        told = rounds(board, other)
        self.assertEqual([told[-1][120 + number] for number in numbers], told[-1][:120])
        self.assertEqual(len(set(told[-1])), len(set(told[-1][:120])))


class TestWorths(AlikeCase):
    def test_alike_places_have_the_same_worths(self):
        source = random.Random(264)
        pairs = 0
        for turn in range(120):
            one = ending_board(source, source.randint(2, 9))
            if turn % 2:
                other = copied(source, one)[0]
            else:
                one = with_like_gains(one)
                other = with_like_gains(ending_board(source, source.randint(2, 9)))
            self.assertEqual(ring_of(one) + ring_of(other), [])
            last = rounds(one, other)[-1]
            worths = best(one)[0] + best(other)[0]
            told = {}
            for number, worth in zip(last, worths):
                pairs += number in told
                self.assertEqual(told.setdefault(number, worth), worth)
        self.assertGreater(pairs, 200)


class TestApart(AlikeCase):
    def test_what_is_handed_in_is_as_it_was(self):
        source = random.Random(265)
        for turn in range(40):
            one = some_board(source, 7)
            other = some_board(source, 5)
            kept = copy.deepcopy((one, other))
            rounds(one, other)
            alike(one, 0, other, 0)
            rounds(one, one)
            self.assertEqual((one, other), kept)

    def test_a_change_of_what_was_told_changes_nothing_told_otherwise(self):
        one, other = chain(3, 0), chain(1, 0)
        first = rounds(one, other)
        second = rounds(one, other)
        for numbers in first:
            numbers.clear()
        first.clear()
        self.assertEqual(second, rounds_anew(one, other))
        self.assertEqual(rounds(one, other), second)

    def test_a_change_of_what_was_handed_in_changes_nothing_told(self):
        one, other = chain(3, 0), chain(1, 0)
        told = rounds(one, other)
        kept = copy.deepcopy(told)
        one[0][2].clear()
        one.clear()
        other.clear()
        self.assertEqual(told, kept)


if __name__ == "__main__":
    unittest.main()
