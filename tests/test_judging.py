import copy
import random
import unittest
from fractions import Fraction

from boards import COIN, all_picks, as_share, ring_of, some_board, some_ending_games, some_picks, some_rule, turned_about

from pressluck.best import best
from pressluck.errors import NoEnd, NoWay, TooMany
from pressluck.games import read_game
from pressluck.judging import held_board, judged
from pressluck.papers import slips
from pressluck.rules import picks_by, read_rule
from pressluck.spread import spread
from pressluck.worths import visits, worths_of

END = ("end", (0, 1))
# Place 1 is y, place 2 is z: each loses by its way bad.
FORKED = """place x pick {who}
way up go y
way down go z
place y pick {who}
way good go {best}
way bad go middle
place z pick {who}
way good go {best}
way bad go middle
place high end 5
place middle end 2
place low end -1"""
RINGED = "place x pick 1\nway a go x\nway b go e\nplace e end 0"


def judged_anew(game, rule, who):
    """By all picks of the other, and by visits and slips told apart."""
    board = spread(game)[0]
    worths = best(board)[0]
    picks = picks_by(game, rule)
    sign = 1 if who == 1 else -1
    others = all_picks(board, (3 - who,), picks)
    hold = min((sign * Fraction(*worths_of(board, other)[0]) for other in others)) * sign
    loss = sign * (Fraction(*worths[0]) - hold)
    if loss == 0:
        return ("good", as_share(hold))
    answer = best(held_board(board, picks, who))[1]
    kept = [picks[number] if place[0] == "pick" and place[1] == who else answer[number]
            for number, place in enumerate(board)]
    lost = slips(board, worths, picks)
    often = visits(board, kept, 0)
    place = min(number for number, place in enumerate(board)
                if place[:2] == ("pick", who) and often[number] != (0, 1) and lost[number] != (0, 1))
    return ("worse", as_share(hold), as_share(loss), place, as_share(abs(Fraction(*lost[place]))))


class TestHeldBoard(unittest.TestCase):
    BOARD = [("pick", 1, [1, 2, 3]), ("pick", 2, [0, 3]), ("throw", (1, 2), [(1, 0), (2, 3)]), ("end", (7, 3)),
             ("pick", 1, [4, 4, 3, 0])]

    def test_of_person_1_and_of_person_2(self):
        picks = [2, 1, None, None, 0]
        self.assertEqual(held_board(self.BOARD, picks, 1),
                         [("pick", 1, [3]), ("pick", 2, [0, 3])] + self.BOARD[2:4] + [("pick", 1, [4])])
        self.assertEqual(held_board(self.BOARD, picks, 2),
                         [("pick", 1, [1, 2, 3]), ("pick", 2, [3])] + self.BOARD[2:])
        self.assertIs(type(held_board(self.BOARD, picks, 1)), list)

    def test_of_boards_with_a_ring_and_without_picks(self):
        self.assertEqual(held_board([("pick", 1, [0, 1]), END], [0, None], 1), [("pick", 1, [0]), END])
        self.assertEqual(held_board([("pick", 1, [0, 1]), END], [1, None], 1), [("pick", 1, [1]), END])
        self.assertEqual(held_board([("pick", 1, [0, 1]), END], [1, None], 2), [("pick", 1, [0, 1]), END])
        self.assertEqual(held_board([("throw", (0, 1), [(1, 0)])], [None], 1), [("throw", (0, 1), [(1, 0)])])
        self.assertEqual(held_board([END], [None], 2), [END])

    def test_of_boards_that_are_too_great(self):
        board = [("pick", 1, [(number + 1) % 119, 119]) for number in range(119)] + [END]
        self.assertEqual(held_board(board, [1] * 119 + [None], 1), [("pick", 1, [119])] * 119 + [END])

    def test_many_boards(self):
        source = random.Random(251)
        for turn in range(200):
            board = some_board(source, source.randint(1, 10), 0.2, 0.6, 4)
            picks = some_picks(source, board)
            for who in (1, 2):
                for place, pick, held in zip(board, picks, held_board(board, picks, who)):
                    if place[:2] == ("pick", who):
                        self.assertEqual(held, ("pick", who, [place[2][pick]]))
                    else:
                        self.assertEqual(held, place)

    def test_held_to_the_picks_of_both_all_is_as_under_these_picks(self):
        source = random.Random(252)
        for game, board in some_ending_games(source, 30, spread, best):
            picks = some_picks(source, board)
            both = held_board(held_board(board, picks, 1), [0 if place[:2] == ("pick", 1) else pick
                                                            for place, pick in zip(board, picks)], 2)
            self.assertEqual(best(both)[0], worths_of(board, picks))


class TestNamed(unittest.TestCase):
    def assert_judged(self, text, rule, who, due):
        told = judged(read_game(text), read_rule(rule), who)
        self.assertEqual(told, due)
        self.assertIs(type(told), tuple)
        self.assertEqual(told, judged_anew(read_game(text), read_rule(rule), who))

    def test_good_ones(self):
        self.assert_judged(COIN, "choose keep", 1, ("good", (1, 3)))
        self.assert_judged(COIN, "choose keep if sum from 1\nchoose more", 1, ("good", (1, 3)))
        self.assert_judged("place x end 7/2", "", 1, ("good", (7, 2)))
        self.assert_judged("place x end 7/2", "x y", 2, ("good", (7, 2)))

    def test_a_person_without_picks_holds_the_worth(self):
        self.assert_judged(COIN, "choose more", 2, ("good", (1, 3)))

    def test_worse_ones(self):
        self.assert_judged(COIN, "choose more", 1, ("worse", (1, 4), (1, 12), 3, (1, 6)))
        self.assert_judged(COIN, "", 1, ("worse", (1, 4), (1, 12), 3, (1, 6)))

    def test_of_both_persons(self):
        first = FORKED.format(who=1, best="high")
        second = FORKED.format(who=2, best="low")
        self.assert_judged(first, "", 1, ("good", (5, 1)))
        self.assert_judged(second, "", 2, ("good", (-1, 1)))
        self.assert_judged(first, "y bad", 1, ("worse", (2, 1), (3, 1), 1, (3, 1)))
        self.assert_judged(second, "y bad", 2, ("worse", (2, 1), (3, 1), 1, (3, 1)))
        self.assert_judged(first, "x down\nz bad", 1, ("worse", (2, 1), (3, 1), 2, (3, 1)))
        self.assert_judged(second, "x down\nz bad", 2, ("worse", (2, 1), (3, 1), 2, (3, 1)))

    def test_a_place_that_loses_but_is_never_come_to(self):
        for who, goal, worth in ((1, "high", (5, 1)), (2, "low", (-1, 1))):
            text = FORKED.format(who=who, best=goal)
            self.assert_judged(text, "z bad", who, ("good", worth))
            self.assert_judged(text, "x down\ny bad", who, ("good", worth))
            self.assert_judged(text, "x down\ny bad\nz bad", who, ("worse", (2, 1), (3, 1), 2, (3, 1)))

    def test_a_place_that_only_the_other_leads_to(self):
        text = ("place x pick 2\nway mild go y\nway hard go z\nplace y pick 1\nway a go five\nway b go four\n"
                "place z pick 1\nway a go six\nway b go one\nplace five end 5\nplace four end 4\nplace six end 6\n"
                "place one end 1")
        self.assert_judged(text, "", 1, ("good", (5, 1)))
        # Person 2 goes to z now, where person 1 loses much, and not to y, where she loses too, and which is ahead of it.
        self.assert_judged(text, "y b\nz b", 1, ("worse", (1, 1), (4, 1), 2, (5, 1)))
        self.assert_judged(text, "y b", 1, ("worse", (4, 1), (1, 1), 1, (1, 1)))
        self.assert_judged(text, "z b", 1, ("worse", (1, 1), (4, 1), 2, (5, 1)))
        self.assert_judged(text, "y b\nz b\nx hard", 2, ("worse", (6, 1), (1, 1), 0, (1, 1)))

    def test_a_place_that_is_lost_at_again_and_again(self):
        text = ("place x pick 1\nway go go y\nway stay go z\nplace y throw d2 pay 0\nfrom 1 to 1 go x\nfrom 2 to 2 go one\n"
                "place z throw d2 pay -1\nfrom 1 to 1 go x\nfrom 2 to 2 go one\nplace one end 1")
        self.assert_judged(text, "x go", 1, ("good", (1, 1)))
        self.assert_judged(text, "x stay", 1, ("worse", (-1, 1), (2, 1), 0, (1, 1)))

    def test_a_place_held_by_the_other_is_none_of_the_persons(self):
        text = "place x pick 2\nway a go y\nway b go y\nplace y pick 1\nway a go hi\nway b go lo\nplace hi end 1\nplace lo end 0"
        self.assert_judged(text, "x b\ny b", 1, ("worse", (0, 1), (1, 1), 1, (1, 1)))
        self.assert_judged(text, "x b\ny b", 2, ("good", (1, 1)))

    def test_counts_are_looked_at(self):
        self.assert_judged(COIN, "choose keep if sum below 1", 1, ("worse", (1, 4), (1, 12), 3, (1, 6)))
        self.assert_judged(COIN, "choose keep if none below 9", 1, ("worse", (1, 4), (1, 12), 3, (1, 6)))


class TestMany(unittest.TestCase):
    def test_against_all_picks_of_the_other(self):
        source = random.Random(253)
        seen = {}
        for game, board in some_ending_games(source, 250, spread, best):
            rule = some_rule(source, game, source.randint(0, 5))
            for who in (1, 2):
                if len(all_picks(board, (3 - who,), [0] * len(board))) <= 64:
                    told = judged(game, rule, who)
                    self.assertEqual(told, judged_anew(game, rule, who))
                    seen[(told[0], who)] = seen.get((told[0], who), 0) + 1
        for kind in ("good", "worse"):
            for who in (1, 2):
                self.assertGreater(seen[(kind, who)], 20, (kind, who))

    def test_never_better_than_the_worth_and_lost_as_far_as_it_is_apart(self):
        source = random.Random(254)
        worse = 0
        for game, board in some_ending_games(source, 150, spread, best):
            rule = some_rule(source, game, source.randint(0, 6))
            worths = best(board)[0]
            for who, sign in ((1, 1), (2, -1)):
                told = judged(game, rule, who)
                hold = Fraction(*told[1])
                self.assertLessEqual(sign * hold, sign * Fraction(*worths[0]))
                self.assertEqual(hold, Fraction(*best(held_board(board, picks_by(game, rule), who))[0][0]))
                if told[0] == "worse":
                    worse += 1
                    self.assertEqual(Fraction(*told[2]), sign * (Fraction(*worths[0]) - hold))
                    self.assertGreater(told[2][0], 0)
                    self.assertGreater(told[4][0], 0)
                    self.assertEqual(board[told[3]][:2], ("pick", who))
                else:
                    self.assertEqual(told, ("good", worths[0]))
        self.assertGreater(worse, 40)

    def test_best_picks_of_the_person_are_good(self):
        source = random.Random(255)
        tried = 0
        for game, board in some_ending_games(source, 150, spread, best):
            told = spread(game)
            picks = best(board)[1]
            rule = [(state[0], words[pick], None) for state, words, pick in zip(told[1], told[2], picks) if words]
            if len({name for name, word, when in rule}) == len(rule):
                tried += 1
                for who in (1, 2):
                    self.assertEqual(judged(game, rule, who), ("good", best(board)[0][0]))
        self.assertGreater(tried, 30)

    def test_a_game_turned_about_is_judged_alike_for_the_other_person(self):
        source = random.Random(256)
        tried = 0
        for game, board in some_ending_games(source, 100, spread, best):
            if not any(what[0] == "score" for name, what in game[1]):
                rule = some_rule(source, game, 3)
                for who in (1, 2):
                    tried += 1
                    told = judged(game, rule, who)
                    self.assertEqual(judged(turned_about(game), rule, 3 - who),
                                     (told[0], (-told[1][0], told[1][1])) + told[2:])
        self.assertGreater(tried, 40)


class TestRefused(unittest.TestCase):
    def assert_refused(self, refusal, text, rules=("", "x b", "y b\nx a")):
        for rule in rules:
            for who in (1, 2):
                with self.subTest(text=text, rule=rule, who=who), self.assertRaises(refusal) as caught:
                    judged(read_game(text), read_rule(rule), who)
        return caught.exception

    def test_as_spread_is(self):
        self.assert_refused(NoWay, "count c 1\nplace x pick 1\nway a if c from 1 go x")
        self.assert_refused(TooMany, "count c 60\ncount d 60\nplace x pick 1\nway a plus c 1 go x\nway b plus d 1 go x")

    def test_a_ring_of_the_games_board(self):
        self.assertEqual(self.assert_refused(NoEnd, RINGED).places, [0])
        text = "place w throw d2 pay 0\nfrom 1 to 1 go x\nfrom 2 to 2 go e\n" + RINGED
        self.assertEqual(self.assert_refused(NoEnd, text).places, [1])

    def test_a_ring_that_the_rule_would_leave(self):
        self.assertEqual(ring_of(held_board(spread(read_game(RINGED))[0], [1, None], 1)), [])
        self.assert_refused(NoEnd, RINGED, ["x b"])

    def test_a_part_that_is_too_great_though_the_held_one_is_not(self):
        text = ("count c 30\nplace x throw d3 pay 0\nfrom 1 to 1 set c 0 go y\nfrom 2 to 2 plus c 1 go y\n"
                "from 3 to 3 go e\nplace y pick 1\nway a go x\nway b go e\nplace e end 0")
        best(held_board(spread(read_game(text))[0], picks_by(read_game(text), [("y", "b", None)]), 1))
        self.assert_refused(TooMany, text, ["y b"])
        self.assert_refused(TooMany, text)

    def test_in_this_order(self):
        # A pick without a way, and a ring ahead of it.
        self.assert_refused(NoWay, "count c 1\nplace x pick 1\nway a go x\nway b go y\nplace y pick 1\nway a if c from 1 go x")
        # A ring, and a part that is too great.
        text = ("count c 30\nplace x throw d2 pay 0\nfrom 1 to 1 set c 0 go y\nfrom 2 to 2 plus c 1 go y\n"
                "place y pick 1\nway a go x\nway b go z\nplace z throw 0 pay 0\nfrom 0 to 0 go z")
        self.assert_refused(NoEnd, text)
        # A ring, and too many states.
        self.assert_refused(TooMany, "count c 60\ncount d 60\nplace x pick 1\nway a plus c 1 go x\nway b plus d 1 go y\n"
                                     "place y throw 0 pay 0\nfrom 0 to 0 go x")

    def test_behind_a_refusal_all_is_as_it_was(self):
        for turn in range(2):
            self.assert_refused(NoEnd, RINGED)
            self.assertEqual(judged(read_game(COIN), [], 1), ("worse", (1, 4), (1, 12), 3, (1, 6)))


class TestApart(unittest.TestCase):
    def test_what_is_handed_in_is_as_it_was(self):
        source = random.Random(257)
        for game, board in some_ending_games(source, 30, spread, best):
            rule = some_rule(source, game, 4)
            picks = some_picks(source, board)
            kept = copy.deepcopy((game, rule, board, picks))
            for who in (1, 2):
                judged(game, rule, who)
                held_board(board, picks, who)
            self.assertEqual((game, rule, board, picks), kept)

    def test_the_held_board_is_the_askers_own(self):
        board = copy.deepcopy(TestHeldBoard.BOARD)
        picks = [2, 1, None, None, 0]
        for who in (1, 2):
            told = held_board(board, picks, who)
            for place in told:
                if place[0] != "end":
                    place[2].clear()
            told.clear()
        self.assertEqual(board, TestHeldBoard.BOARD)
        self.assertEqual(picks, [2, 1, None, None, 0])

    def test_a_change_of_what_was_handed_in_changes_nothing_told(self):
        board = copy.deepcopy(TestHeldBoard.BOARD)
        picks = [2, 1, None, None, 0]
        told = held_board(board, picks, 1)
        kept = copy.deepcopy(told)
        for place in board:
            if place[0] != "end":
                place[2].append(0)
        board.clear()
        picks.clear()
        self.assertEqual(told, kept)


if __name__ == "__main__":
    unittest.main()
