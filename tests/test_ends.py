import copy
import random
import unittest

from boards import ending_board, goals_of, ring_of, some_board

from pressluck.ends import levels, ring, stays

END = ("end", (1, 1))


def throw(*to):
    return ("throw", (0, 1), [(1, goal) for goal in to])


def pick(*to, who=1):
    return ("pick", who, list(to))


def levels_by_rounds(board):
    """The level of each place, from the sets of places that have one behind each round."""
    behind = [{number for number, place in enumerate(board) if place[0] == "end"}]
    while len(behind) == 1 or behind[-1] != behind[-2]:
        more = set(behind[-1])
        for number, place in enumerate(board):
            inside = [to in behind[-1] for to in goals_of(place)]
            if (place[0] == "throw" and any(inside)) or (place[0] == "pick" and all(inside)):
                more.add(number)
        behind.append(more)
    return [min((turn for turn, places in enumerate(behind) if number in places), default=None)
            for number in range(len(board))]


class BoardCase(unittest.TestCase):
    def assert_board(self, board):
        told = levels(board)
        self.assertEqual(told, levels_by_rounds(board))
        self.assertIs(type(told), list)
        left = ring(board)
        self.assertEqual(left, ring_of(board))
        self.assertEqual(left, [number for number, level in enumerate(told) if level is None])
        held = stays(board)
        self.assertEqual(len(held), len(board))
        for number, place in enumerate(board):
            if number in left:
                self.assertIn(goals_of(place)[held[number]], left)
                for to in goals_of(place)[:held[number]]:
                    self.assertNotIn(to, left)
                if place[0] == "throw":
                    self.assertEqual(held[number], 0)
            else:
                self.assertIsNone(held[number])


class TestLevels(BoardCase):
    def test_ends_alone(self):
        self.assertEqual(levels([END]), [0])
        self.assertEqual(levels([END] * 5), [0] * 5)
        self.assertEqual(ring([END] * 5), [])
        self.assertEqual(stays([END] * 5), [None] * 5)

    def test_named_ones(self):
        self.assertEqual(levels([throw(1), END]), [1, 0])
        self.assertEqual(levels([pick(1, 2), throw(2), END]), [2, 1, 0])
        self.assertEqual(levels([throw(1, 2), throw(2), END]), [1, 1, 0])
        self.assertEqual(levels([pick(1), pick(2), pick(3), END]), [3, 2, 1, 0])

    def test_a_round_looks_at_earlier_rounds_alone(self):
        self.assertEqual(levels([END, throw(0), throw(1), throw(2)]), [0, 1, 2, 3])
        self.assertEqual(levels([throw(1), throw(2), throw(3), END]), [3, 2, 1, 0])
        self.assertEqual(levels([END, throw(0), pick(0, 1), throw(2)]), [0, 1, 2, 3])

    def test_a_throw_takes_its_first_round_and_a_pick_its_last(self):
        self.assertEqual(levels([END, throw(0), throw(1), throw(2, 0, 1), pick(2, 0, 1), pick(0, 0)]), [0, 1, 2, 1, 3, 1])

    def test_picks_with_a_way_that_has_no_level(self):
        board = [END, pick(0, 1), pick(0, 3), throw(3), pick(0), pick(0, 4, who=2), pick(0, 4, 2, who=2)]
        self.assertEqual(levels(board), [0, None, None, None, 1, 2, None])
        self.assertEqual(ring(board), [1, 2, 3, 6])
        self.assertEqual(stays(board), [None, 1, 1, 0, None, None, 2])

    def test_ways_back(self):
        self.assertEqual(levels([throw(0, 1), END]), [1, 0])
        self.assertEqual(levels([pick(1, 2), throw(0, 2), END]), [2, 1, 0])
        self.assertEqual(levels([pick(1, 2, who=2), throw(2, 0), END]), [2, 1, 0])
        self.assertEqual(levels([pick(1, 2), throw(0, 0), END]), [None, None, 0])


class TestRing(BoardCase):
    def test_boards_without_an_end(self):
        for board in ([throw(0)], [pick(0)], [throw(1), throw(0)], [pick(1, 2), pick(0, who=2), throw(0)]):
            self.assertEqual(levels(board), [None] * len(board))
            self.assertEqual(ring(board), list(range(len(board))))
            self.assert_board(board)

    def test_both_persons_together_stay(self):
        board = [pick(2, 1), pick(2, 0, who=2), END]
        self.assertEqual(ring(board), [0, 1])
        self.assertEqual(stays(board), [1, 1, None])

    def test_a_place_that_only_leads_into_the_ring_is_in_it(self):
        board = [throw(1), pick(1, 2), END, throw(0, 2), pick(0, 2)]
        self.assertEqual(levels(board), [None, None, 0, 1, None])
        self.assertEqual(ring(board), [0, 1, 4])
        self.assertEqual(stays(board), [0, 0, None, None, 0])

    def test_the_first_way_that_stays(self):
        board = [END, pick(0, 0, 1, 1), pick(0, 1, 2, 1), pick(2, 0, 1), throw(1, 2, 3)]
        self.assertEqual(ring(board), [1, 2, 3, 4])
        self.assertEqual(stays(board), [None, 2, 1, 0, 0])

    def test_several_ways_to_one_place(self):
        self.assertEqual(levels([pick(1, 1), END, throw(1, 1), throw(3, 3)]), [1, 0, 1, None])


class TestMany(BoardCase):
    def test_all_boards_of_two_and_three_places(self):
        kinds = [lambda to: throw(*to), lambda to: pick(*to)]
        ways = [(0,), (1,), (2,), (0, 1), (0, 2), (1, 2), (2, 0)]
        places = [kind(to) for kind in kinds for to in ways] + [END]
        for first in places:
            for second in places:
                self.assert_board([first, second, END])
                self.assert_board([first, second, throw(0, 1)])

    def test_many_boards(self):
        source = random.Random(101)
        rings = 0
        for turn in range(600):
            board = some_board(source, source.randint(1, 14), source.choice((0.1, 0.5)), source.choice((0.3, 0.7)))
            rings += ring(board) != []
            self.assert_board(board)
        self.assertGreater(rings, 100)
        self.assertLess(rings, 500)

    def test_boards_that_end(self):
        source = random.Random(102)
        for turn in range(100):
            board = ending_board(source, source.randint(1, 20))
            self.assertEqual(ring(board), [])
            self.assert_board(board)

    def test_long_chains(self):
        for make in (throw, pick):
            down = [END] + [make(number) for number in range(119)]
            self.assertEqual(levels(down), list(range(120)))
            up = [make(number + 1) for number in range(119)] + [END]
            self.assertEqual(levels(up), list(range(119, -1, -1)))
            around = [make((number + 1) % 120) for number in range(120)]
            self.assertEqual(ring(around), list(range(120)))
            self.assertEqual(stays(around), [0] * 120)

    def test_120_places_and_100_ways(self):
        source = random.Random(103)
        board = [("throw", (1, 3), [(source.randint(1, 9999), source.randrange(119)) for way in range(100)])
                 for number in range(119)] + [END]
        board[7] = ("throw", (0, 1), [(1, 5)] * 99 + [(1, 119)])
        self.assert_board(board)
        self.assertEqual(ring(board), [])
        board[7] = ("throw", (0, 1), [(1, 5)] * 100)
        self.assertEqual(ring(board), list(range(119)))
        chain = [END] + [throw(*([number + 2] * 99 + [number])) for number in range(119)]
        chain[119] = throw(*([119] * 99 + [118]))
        self.assertEqual(levels(chain), list(range(120)))


class TestApart(BoardCase):
    def test_what_is_handed_in_is_as_it_was(self):
        source = random.Random(104)
        for turn in range(20):
            board = some_board(source, 9)
            kept = copy.deepcopy(board)
            for asked in (levels, ring, stays):
                asked(board)
                self.assertEqual(board, kept)

    def test_a_change_of_what_was_told_changes_nothing_told_otherwise(self):
        board = [pick(1, 0), END, throw(1)]
        for asked, expected in ((levels, [None, 0, 1]), (ring, [0]), (stays, [1, None, None])):
            first = asked(board)
            second = asked(board)
            first.append(5)
            first[0] = 9
            self.assertEqual(second, expected)
            self.assertEqual(asked(board), expected)

    def test_a_change_of_the_handed_in_board_changes_nothing_told(self):
        board = [pick(1, 0), END, throw(1)]
        told = [levels(board), ring(board), stays(board)]
        board[0][2].clear()
        board.pop()
        self.assertEqual(told, [[None, 0, 1], [0], [1, None, None]])


if __name__ == "__main__":
    unittest.main()
