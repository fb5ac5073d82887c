import copy
import random
import unittest

from boards import distances, ending_board, goals_of, some_board

from pressluck.parts import parts, reached, way_to

END = ("end", (1, 1))


def throw(*to):
    return ("throw", (0, 1), [(1, goal) for goal in to])


def pick(*to):
    return ("pick", 2, list(to))


class PartCase(unittest.TestCase):
    def assert_way(self, board, start, goal, length):
        way = way_to(board, start, goal)
        if length is None:
            self.assertIsNone(way)
            return
        self.assertIs(type(way), list)
        self.assertEqual(len(way), length)
        here = start
        for step in way:
            self.assertGreaterEqual(step, 0)
            here = goals_of(board[here])[step]
        self.assertEqual(here, goal)

    def assert_parts(self, board, far):
        told = parts(board)
        self.assertIs(type(told), list)
        turns = {}
        for turn, part in enumerate(told):
            self.assertIs(type(part), list)
            self.assertNotEqual(part, [])
            self.assertEqual(part, sorted(part))
            for place in part:
                self.assertNotIn(place, turns)
                turns[place] = turn
        self.assertEqual(sorted(turns), list(range(len(board))))
        for one in turns:
            for other in turns:
                both = far[one][other] is not None and far[other][one] is not None
                self.assertEqual(turns[one] == turns[other], both)
            for to in goals_of(board[one]):
                self.assertLessEqual(turns[to], turns[one])

    def assert_board(self, board):
        far = distances(board)
        for start in range(len(board)):
            told = reached(board, start)
            self.assertIs(type(told), list)
            self.assertEqual(told, [place for place in range(len(board)) if far[start][place] is not None])
            for goal in range(len(board)):
                self.assert_way(board, start, goal, far[start][goal])
        self.assert_parts(board, far)


class TestReached(PartCase):
    def test_named_ones(self):
        board = [throw(1, 2), END, pick(2, 3), throw(0), END]
        self.assertEqual(reached(board, 0), [0, 1, 2, 3])
        self.assertEqual(reached(board, 1), [1])
        self.assertEqual(reached(board, 2), [0, 1, 2, 3])
        self.assertEqual(reached(board, 4), [4])
        self.assertEqual(way_to(board, 0, 3), [1, 1])
        self.assertEqual(way_to(board, 2, 1), [1, 0, 0])
        self.assertIsNone(way_to(board, 0, 4))
        self.assertIsNone(way_to(board, 1, 0))

    def test_each_place_is_reached_from_itself(self):
        board = [END, throw(0), throw(2), pick(4, 3), throw(3)]
        for place in range(5):
            self.assertIn(place, reached(board, place))
            self.assertEqual(way_to(board, place, place), [])

    def test_several_ways_to_one_place(self):
        board = [pick(0, 1, 1), END]
        self.assertIn(way_to(board, 0, 1), ([1], [2]))

    def test_the_shorter_of_two_ways(self):
        board = [throw(1, 3), throw(2), throw(4), throw(4), END]
        self.assertEqual(way_to(board, 0, 4), [1, 0])
        self.assertEqual(way_to([throw(1, 2), throw(2), END], 0, 2), [1])


class TestParts(PartCase):
    def test_named_ones(self):
        self.assertEqual(parts([END]), [[0]])
        self.assertEqual(parts([throw(1), throw(2), END]), [[2], [1], [0]])
        self.assertEqual(parts([END, throw(0), throw(1)]), [[0], [1], [2]])
        self.assertEqual(parts([throw(2), END, pick(1, 0)]), [[1], [0, 2]])
        self.assertEqual(parts([throw(0)]), [[0]])

    def test_a_way_to_itself_makes_no_greater_part(self):
        self.assert_board([throw(0, 1), pick(1, 2), END])
        self.assertEqual(parts([throw(0, 1), pick(1, 2), END]), [[2], [1], [0]])

    def test_two_parts_of_many_places(self):
        board = [throw(2), throw(3), throw(4), throw(5), throw(0, 3), throw(1, 6), END]
        self.assertEqual(parts(board), [[6], [1, 3, 5], [0, 2, 4]])

    def test_parts_that_do_not_lead_to_one_another(self):
        board = [throw(1), throw(0), throw(3), throw(2), END]
        self.assertEqual(sorted(parts(board)), [[0, 1], [2, 3], [4]])

    def test_a_part_stands_behind_one_that_it_leads_to_over_another(self):
        board = [throw(1), throw(2), throw(3), throw(3, 4), END, throw(0), throw(5, 4)]
        self.assertEqual(parts(board), [[4], [3], [2], [1], [0], [5], [6]])


class TestMany(PartCase):
    def test_many_boards(self):
        source = random.Random(111)
        for turn in range(200):
            self.assert_board(some_board(source, source.randint(1, 12), source.choice((0.1, 0.4)), 0.4,
                                         source.choice((1, 2, 3))))

    def test_boards_that_end(self):
        source = random.Random(112)
        for turn in range(60):
            self.assert_board(ending_board(source, source.randint(1, 15), source.choice((1, 5))))

    def test_boards_without_ways_back(self):
        source = random.Random(113)
        for turn in range(60):
            board = [END]
            for number in range(1, source.randint(2, 15)):
                make = source.choice((throw, pick))
                board.append(make(*[source.randrange(number) for way in range(source.randint(1, 4))]))
            self.assert_board(board)
            self.assertEqual([len(part) for part in parts(board)], [1] * len(board))

    def test_long_chains(self):
        for make in (throw, pick):
            up = [make(number + 1) for number in range(119)] + [END]
            self.assertEqual(way_to(up, 0, 119), [0] * 119)
            self.assertEqual(reached(up, 60), list(range(60, 120)))
            self.assertEqual(parts(up), [[number] for number in range(119, -1, -1)])
            down = [END] + [make(number) for number in range(119)]
            self.assertEqual(way_to(down, 119, 0), [0] * 119)
            self.assertEqual(parts(down), [[number] for number in range(120)])
            around = [make((number + 1) % 120) for number in range(120)]
            self.assertEqual(parts(around), [list(range(120))])
            self.assertEqual(way_to(around, 5, 4), [0] * 119)

    def test_120_places_and_100_ways(self):
        source = random.Random(114)
        board = [throw(*[source.randrange(120) for way in range(100)]) for number in range(119)] + [END]
        self.assertEqual(parts(board), [[119], list(range(119))])
        chain = [END] + [throw(*([number + 2] * 99 + [number])) for number in range(119)]
        chain[119] = throw(*([119] * 99 + [118]))
        self.assertEqual(way_to(chain, 119, 0), [99] * 119)
        self.assertEqual(parts(chain), [[0], list(range(1, 120))])


class TestApart(PartCase):
    def test_what_is_handed_in_is_as_it_was(self):
        source = random.Random(115)
        for turn in range(20):
            board = some_board(source, 8)
            kept = copy.deepcopy(board)
            parts(board)
            for start in range(8):
                reached(board, start)
                way_to(board, start, 7 - start)
            self.assertEqual(board, kept)

    def test_a_change_of_what_was_told_changes_nothing_told_otherwise(self):
        board = [throw(1, 2), pick(0, 2), END]
        for asked, expected in ((parts, [[2], [0, 1]]), (lambda asker: reached(asker, 1), [0, 1, 2]),
                                (lambda asker: way_to(asker, 1, 2), [1])):
            first = asked(board)
            second = asked(board)
            if isinstance(first[0], list):
                first[0].append(7)
            first.clear()
            self.assertEqual(second, expected)
            self.assertEqual(asked(board), expected)

    def test_a_change_of_the_handed_in_board_changes_nothing_told(self):
        board = [throw(1, 2), pick(0, 2), END]
        told = [parts(board), reached(board, 1), way_to(board, 1, 2)]
        board[0][2].clear()
        board[1][2].append(1)
        board.pop()
        self.assertEqual(told, [[[2], [0, 1]], [0, 1, 2], [1]])


if __name__ == "__main__":
    unittest.main()
