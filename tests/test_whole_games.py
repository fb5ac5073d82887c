"""Games read from their texts, spread, and played best."""

import random
import unittest
from fractions import Fraction

from boards import all_picks, is_answered, ring_of, some_ending_games, some_game, turned_about

from pressluck.best import best
from pressluck.ends import ring
from pressluck.errors import NoEnd, TooMany
from pressluck.games import read_game, show_game
from pressluck.papers import misfits, slips
from pressluck.spread import spread
from pressluck.worths import visits, worths_of

PIG = """count turn {most}
count bank {most}
place more ask bank from {most} go won else due
place due ask turn from {most} go must else choose
place choose pick 1
way roll go cast
way keep if turn from 1 move turn bank go more
place must pick 1
way keep move turn bank go more
place cast throw d6 pay -1/2
from 1 to 1 set turn 0 go more
from 2 to 6 face turn go more
place won end 10"""
# Person 1 throws as long as she likes, up to 9, and a 1 brings nothing; person 2 picks where she begins.
DUEL = """count sum 9
place start pick 2
way great set sum 4 go choose
way small go choose
place full ask sum from 9 go done else choose
place choose pick 1
way throw go cast
way keep go done
place cast throw d6 pay 0
from 1 to 1 set sum 0 go done
from 2 to 6 face sum go full
place done score sum"""


def fractions(shares):
    return [Fraction(*one) for one in shares]


def with_memory(board, picks, who):
    """The board of pairs of a place and a thing remembered, 0 or 1; the other person keeps to the picks.

    At a throw the way taken is remembered or forgotten; at an own pick the person also chooses what to remember.
    """
    size = len(board)
    told = []
    for memory in (0, 1):
        for number, place in enumerate(board):
            if place[0] == "throw":
                ways = [(weight, to + size * ((memory + way) % 2)) for way, (weight, to) in enumerate(place[2])]
                told.append(("throw", place[1], ways))
            elif place[0] == "pick" and place[1] == who:
                told.append(("pick", who, [to + size * kept for to in place[2] for kept in (0, 1)]))
            elif place[0] == "pick":
                told.append(("pick", place[1], [place[2][picks[number]] + size * memory]))
            else:
                told.append(place)
    return told


class TestNamed(unittest.TestCase):
    def test_keep_or_throw(self):
        board, states, words = spread(read_game(DUEL))
        worths, picks = best(board)
        told = {(name, counts[0]): (worth, said[pick] if said else None)
                for (name, counts), worth, said, pick in zip(states, worths, words, picks)}
        self.assertEqual(told[("choose", 8)], ((8, 1), "keep"))
        self.assertEqual(told[("choose", 7)], ((15, 2), "throw"))
        self.assertEqual(told[("choose", 6)], ((22, 3), "throw"))
        self.assertEqual(told[("cast", 8)], ((15, 2), None))
        self.assertEqual(told[("start", 0)], (told[("choose", 0)][0], "small"))
        self.assertEqual(misfits(board, worths), [])

    def test_a_game_that_goes_round_through_throws_alone(self):
        board = spread(read_game(PIG.format(most=3)))[0]
        self.assertEqual(ring(board), [])
        worths, picks = best(board)
        self.assertEqual(misfits(board, worths), [])
        self.assertEqual(worths_of(board, picks), worths)

    def test_a_game_that_can_go_on_for_ever_is_told_with_its_ring(self):
        game = read_game("place x pick 1\nway a go y\nway b go z\nplace y throw d2 pay 1\nfrom 1 to 2 go x\nplace z end 0")
        board, states, words = spread(game)
        with self.assertRaises(NoEnd) as caught:
            best(board)
        self.assertEqual([states[number][0] for number in caught.exception.places], ["x", "y"])

    def test_a_part_of_more_than_40_places(self):
        text = "count c {most}\nplace y ask c from {most} go e else x\nplace x throw d2 pay 0\n" \
               "from 1 to 1 set c 0 go y\nfrom 2 to 2 plus c 1 go y\nplace e end 1"
        self.assertEqual(len(spread(read_game(text.format(most=40)))[0]), 41)
        self.assertEqual(set(best(spread(read_game(text.format(most=40)))[0])[0]), {(1, 1)})
        with self.assertRaises(TooMany):
            best(spread(read_game(text.format(most=41)))[0])

    def test_picks_of_a_part_that_are_too_many(self):
        text = "count c {most}\nplace x throw d2 pay 0\nfrom 1 to 1 set c 0 go y\nfrom 2 to 2 plus c 1 go y\n" \
               "place y ask c from {most} go e else z\nplace z pick 1\nway a go x\nway b go e\nplace e score c"
        self.assertEqual(len(best(spread(read_game(text.format(most=12)))[0])[0]), 12 * 2 + 13)
        with self.assertRaises(TooMany):
            best(spread(read_game(text.format(most=13)))[0])


class TestMany(unittest.TestCase):
    def test_just_one_list_of_worths_fits_and_is_told(self):
        source = random.Random(241)
        for game, board in some_ending_games(source, 60, spread, best):
            self.assertEqual(spread(read_game(show_game(game)))[0], board)
            worths, picks = best(board)
            self.assertEqual(misfits(board, worths), [])
            self.assertEqual(worths_of(board, picks), worths)
            self.assertEqual(slips(board, worths, picks), [(0, 1)] * len(board))

    def test_no_other_way_of_one_brings_more(self):
        source = random.Random(242)
        tried = 0
        for game, board in some_ending_games(source, 150, spread, best):
            worths, picks = best(board)
            for who, sign in ((1, 1), (2, -1)):
                others = all_picks(board, (who,), picks)
                tried += len(others)
                for other in others if len(others) < 300 else source.sample(others, 300):
                    for brought, worth in zip(fractions(worths_of(board, other)), fractions(worths)):
                        self.assertLessEqual(sign * brought, sign * worth)
        self.assertGreater(tried, 500)

    def test_no_other_way_of_one_brings_more_though_something_is_remembered(self):
        source = random.Random(246)
        tried = 0
        for game, board in some_ending_games(source, 150, spread, best):
            worths, picks = best(board)
            for who in (1, 2):
                greater = with_memory(board, picks, who)
                if is_answered(best, greater):
                    tried += 1
                    self.assertEqual(best(greater)[0], worths * 2)
        self.assertGreater(tried, 100)

    def test_what_a_way_is_worth_and_what_it_lacks(self):
        source = random.Random(243)
        for game, board in some_ending_games(source, 40, spread, best):
            worths = best(board)[0]
            picks = [source.randrange(len(place[2])) if place[0] == "pick" else None for place in board]
            under = fractions(worths_of(board, picks))
            lost = fractions(slips(board, worths, picks))
            for start in range(len(board)):
                often = fractions(visits(board, picks, start))
                got = sum(count * Fraction(*place[1]) for count, place in zip(often, board) if place[0] != "pick")
                self.assertEqual(under[start], got)
                self.assertEqual(Fraction(*worths[start]) - got, sum(count * slip for count, slip in zip(often, lost)))

    def test_games_that_are_not_sure_to_end(self):
        source = random.Random(244)
        refused = 0
        while refused < 30:
            try:
                board = spread(some_game(source, 1, 6, 3, False))[0]
            except TooMany:
                continue
            if ring_of(board):
                refused += 1
                with self.assertRaises(NoEnd) as caught:
                    best(board)
                self.assertEqual(caught.exception.places, ring_of(board))

    def test_a_game_turned_about_has_its_worths_turned_about(self):
        source = random.Random(245)
        tried = 0
        for game, board in some_ending_games(source, 80, spread, best):
            if not any(what[0] == "score" for name, what in game[1]):
                tried += 1
                worths, picks = best(board)
                self.assertEqual(best(spread(turned_about(game))[0]),
                                 ([(-worth[0], worth[1]) for worth in worths], picks))
        self.assertGreater(tried, 20)


if __name__ == "__main__":
    unittest.main()
