import copy
import random
import unittest
from fractions import Fraction

from boards import COIN, POOLS, as_share, some_ending_games, some_game, start_of, steps_of

from pressluck.best import best
from pressluck.errors import NoPlay, NoStep, TooMany
from pressluck.games import read_game
from pressluck.papers import slips
from pressluck.plays import Play, read_play
from pressluck.spread import spread

# A throw of the values 1, 2, 4, 5 and 6, and a pick back to it.
ROUND = """count c 9
count d 3
place x throw burst 1 of d3 pay -1/2
from 1 to 2 face c go y
from 4 to 6 face d go y
place y pick 2
way on go x
way low if c below 3 move c d go e
way high if c from 3 go e
place e score d"""
SHUT = "count c 1\nplace a throw 3 pay 2\nfrom 3 to 3 go b\nplace b pick 1\nway x if c from 1 go a"
THINGS = (None, True, False, -1, 0, 7, 999, 10 ** 11, "", "x", "1", "more ", " more", "More", 1.0, 2.0, [], ["more"], ("more",),
          {}, b"more")


def told_by(play):
    return (play.stands(), play.points(), play.open_ways(), play.shown())


def gain_at(game, state):
    """What is got at a state by standing there: an end's worth."""
    what = dict(game[1])[state[0]]
    if what[0] == "score":
        return Fraction(dict(zip([name for name, most in game[0]], state[1]))[what[1]])
    return Fraction(*what[1]) if what[0] == "end" else Fraction(0)


def pay_at(game, state):
    what = dict(game[1])[state[0]]
    return Fraction(*what[2]) if what[0] == "throw" else Fraction(0)


def take(play, step):
    return play.say(step) if isinstance(step, str) else play.throw(step)


class PlayCase(unittest.TestCase):
    def assert_refused(self, refusal, play, asked, *told):
        kept = told_by(play)
        with self.subTest(repr(told)), self.assertRaises(refusal):
            asked(*told)
        self.assertEqual(told_by(play), kept)

    def assert_no_steps(self, play, right):
        """Each thing but the right ones is refused, said and thrown."""
        for thing in THINGS:
            if not any(type(thing) is type(step) and thing == step for step in right):
                self.assert_refused(NoStep, play, play.say, thing)
                self.assert_refused(NoStep, play, play.throw, thing)

    def played(self, text, *steps):
        play = Play(read_game(text))
        for step in steps:
            self.assertIsNone(take(play, step))
        return play


class TestSteps(PlayCase):
    def test_at_first(self):
        self.assertEqual(told_by(self.played(COIN)), (("choose", [0]), (0, 1), ["more"], ""))
        self.assertEqual(told_by(self.played(ROUND)), (("x", [0, 0]), (0, 1), [1, 2, 4, 5, 6], ""))
        self.assertEqual(told_by(self.played("place a end 5/2")), (("a", []), (5, 2), [], ""))
        self.assertEqual(told_by(self.played("count c 3\nplace a score c")), (("a", [0]), (0, 1), [], ""))
        self.assertEqual(told_by(self.played("count c 1\nplace a ask c from 0 go b else b\nplace b end -7")),
                         (("b", [0]), (-7, 1), [], ""))

    def test_picks_throws_pays_points_and_counts(self):
        play = self.played(COIN)
        for step, due in (("more", (("cast", [0]), (0, 1), [1, 2], "more")),
                          (2, (("choose", [1]), (1, 3), ["more", "keep"], "more 2")),
                          ("more", (("cast", [1]), (1, 3), [1, 2], "more 2 more")),
                          (2, (("won", [2]), (8, 3), [], "more 2 more 2"))):
            self.assertIsNone(take(play, step))
            self.assertEqual(told_by(play), due)
        self.assertEqual(told_by(self.played(COIN, "more", 1)), (("lost", [0]), (-2, 3), [], "more 1"))
        self.assertEqual(told_by(self.played(COIN, "more", 2, "keep")), (("won", [1]), (4, 3), [], "more 2 keep"))

    def test_counts_stay_at_their_most(self):
        play = self.played(ROUND, 6, "on", 2, "on", 2, "on", 1, "high")
        self.assertEqual(told_by(play), (("e", [5, 3]), (1, 1), [], "6 on 2 on 2 on 1 high"))
        self.assertEqual(self.played(ROUND, 2, "low").stands(), ("e", [0, 2]))

    def test_the_kinds_of_what_is_told(self):
        for play in (self.played(ROUND), self.played(ROUND, 1), self.played(ROUND, 1, "low")):
            self.assertEqual([type(play.stands()), type(play.stands()[1]), type(play.points()), type(play.open_ways()),
                              type(play.shown())], [tuple, list, tuple, list, str])

    def test_words_that_are_the_plays_own(self):
        text = "place say pick 1\nway back go say\nway none go play\nplace play throw 7 pay 1\nfrom 7 to 7 go say"
        self.assertEqual(told_by(self.played(text, "back", "none", 7, "none")), (("play", []), (1, 1), [7], "back none 7 none"))


class TestRefused(PlayCase):
    def test_at_a_pick(self):
        self.assert_no_steps(self.played(COIN), ["more"])
        play = self.played(COIN)
        for word in ("keep", "cast", "choose", "mor", "moree", "none", "sum"):
            self.assert_refused(NoStep, play, play.say, word)
        for value in (0, 1, 2, 3):
            self.assert_refused(NoStep, play, play.throw, value)

    def test_a_way_that_is_shut(self):
        play = self.played(ROUND, 2)
        self.assert_refused(NoStep, play, play.say, "high")
        play.say("on")
        play.throw(1)
        self.assert_refused(NoStep, play, play.say, "low")
        play.say("high")

    def test_at_a_throw(self):
        play = self.played(ROUND)
        for value in (0, 3, 7, -1, 100, 10 ** 12 - 1, True, "1", 1.0, None, (1,), [1]):
            self.assert_refused(NoStep, play, play.throw, value)
        for word in ("on", "low", "1", "2", "x", "", 1, 2):
            self.assert_refused(NoStep, play, play.say, word)
        self.assert_no_steps(self.played("place a throw d2 pay 0\nfrom 1 to 2 go a"), [1, 2])

    def test_a_truth_is_no_value(self):
        play = self.played("place a throw hits 2 of d3 pay 0\nfrom 0 to 1 go a")
        self.assertEqual(play.open_ways(), [0, 1])
        for truth in (True, False):
            self.assert_refused(NoStep, play, play.throw, truth)

    def test_at_an_end(self):
        self.assert_no_steps(self.played(COIN, "more", 1), [])
        play = self.played(COIN, "more", 2, "keep")
        self.assert_no_steps(play, [])
        for step in ("more", "keep", "won"):
            self.assert_refused(NoStep, play, play.say, step)
        for step in (1, 2, 0):
            self.assert_refused(NoStep, play, play.throw, step)
        self.assert_no_steps(self.played("place a end 1"), [])

    def test_a_pick_without_an_open_way(self):
        play = self.played(SHUT, 3)
        self.assertEqual(told_by(play), (("b", [0]), (2, 1), [], "3"))
        self.assert_refused(NoStep, play, play.say, "x")
        self.assert_no_steps(play, [])
        play.back()
        self.assertEqual(told_by(play), (("a", [0]), (0, 1), [3], ""))
        start = self.played("count c 1\nplace b pick 1\nway x if c from 1 go b")
        self.assertEqual(told_by(start), (("b", [0]), (0, 1), [], ""))
        self.assert_refused(NoStep, start, start.say, "x")

    def test_games_that_can_not_be_spread_or_are_not_sure_to_end(self):
        text = "\n".join([f"count {name} 60" for name in "abcd"] + ["place x throw d20 pay 1"]
                         + ["from 1 to 10 face a face b go x", "from 11 to 20 face c face d go x"])
        self.assertEqual(told_by(self.played(text, 20, 7, 13))[:2], (("x", [7, 7, 33, 33]), (3, 1)))


class TestMostSteps(PlayCase):
    def test_the_200th_and_the_201st_step(self):
        text = "place a throw d2 pay 1/2\nfrom 1 to 2 go b\nplace b pick 1\nway on go a"
        play = self.played(text, *[2, "on"] * 99)
        play.throw(1)
        play.say("on")
        self.assertEqual((play.points(), len(play.shown().split(" "))), ((50, 1), 200))
        for turn in range(2):
            self.assert_refused(TooMany, play, play.throw, 1)
            self.assert_refused(NoStep, play, play.throw, 3)
            self.assert_refused(NoStep, play, play.throw, True)
            self.assert_refused(NoStep, play, play.say, "on")
        play.back()
        self.assert_refused(NoStep, play, play.say, "off")
        play.say("on")
        self.assert_refused(TooMany, play, play.throw, 2)

    def test_at_a_pick(self):
        play = self.played("place a pick 1\nway on go a\nway off go b\nplace b end 0", *["on"] * 200)
        self.assert_refused(TooMany, play, play.say, "on")
        self.assert_refused(TooMany, play, play.say, "off")
        self.assert_refused(NoStep, play, play.say, "of")
        self.assert_refused(NoStep, play, play.throw, 1)

    def test_an_end_at_the_200th_step(self):
        play = self.played("place a pick 1\nway on go a\nway off go b\nplace b end 3", *["on"] * 199, "off")
        self.assertEqual(play.points(), (3, 1))
        self.assert_no_steps(play, [])

    def test_all_200_steps_can_be_taken_back(self):
        play = self.played("count c 60\nplace a pick 1\nway on plus c 1 go a", *["on"] * 200)
        for number in range(200, 0, -1):
            self.assertEqual(play.stands(), ("a", [min(number, 60)]))
            self.assertIsNone(play.back())
        self.assert_refused(NoStep, play, play.back)


class TestBack(PlayCase):
    def test_to_the_start_and_once_more(self):
        play = self.played(COIN, "more", 2, "keep")
        for due in ((("choose", [1]), (1, 3), ["more", "keep"], "more 2"), (("cast", [0]), (0, 1), [1, 2], "more"),
                    (("choose", [0]), (0, 1), ["more"], "")):
            self.assertIsNone(play.back())
            self.assertEqual(told_by(play), due)
        for turn in range(3):
            self.assert_refused(NoStep, play, play.back)
        play.say("more")
        play.throw(1)
        self.assertEqual(told_by(play), (("lost", [0]), (-2, 3), [], "more 1"))

    def test_at_an_end_at_the_start(self):
        play = self.played("place a end 1")
        self.assert_refused(NoStep, play, play.back)

    def test_another_step_behind_it(self):
        play = self.played(ROUND, 6, "on", 5)
        play.back()
        play.throw(1)
        self.assertEqual(told_by(play), (("y", [1, 3]), (-1, 1), ["on", "low"], "6 on 1"))


class TestMany(PlayCase):
    def test_against_steps_gone_in_another_way(self):
        source = random.Random(271)
        for turn in range(200):
            game = some_game(source, source.randint(0, 3), source.randint(1, 9), 5)
            play = Play(game)
            trail = [(start_of(game), Fraction(0), "")]
            for step in range(source.randint(0, 30)):
                state, paid, shown = trail[-1]
                steps = steps_of(game, state)
                self.assertEqual(told_by(play), ((state[0], list(state[1])), as_share(paid + gain_at(game, state)),
                                                 [word for word, to in steps], shown))
                if len(trail) > 1 and (not steps or source.random() < 0.3):
                    play.back()
                    trail.pop()
                elif steps:
                    word, to = source.choice(steps)
                    take(play, word)
                    trail.append((to, paid + pay_at(game, state), f"{shown} {word}".strip()))
            self.assertEqual(told_by(read_play(game, play.shown())), told_by(play))


class TestWritten(PlayCase):
    def assert_no_play(self, thing, text=COIN):
        with self.subTest(repr(thing)), self.assertRaises(NoPlay):
            read_play(read_game(text), thing)

    def test_written_and_read_back(self):
        for text, plays in ((COIN, ("", "more", "more 1", "more 2", "more 2 more 2", "more 2 keep")),
                            (ROUND, ("", "6", "1 on 2 on 4 high")), ("place a end 1", ("",)), (SHUT, ("", "3"))):
            for shown in plays:
                play = read_play(read_game(text), shown)
                self.assertIs(type(play), Play)
                self.assertEqual(play.shown(), shown)
                self.assertEqual(told_by(play), told_by(self.played(text, *[
                    int(step) if step.isdigit() else step for step in shown.split()])))

    def test_values_of_one_to_three_figures(self):
        for value in (0, 9, 10, 99, 100, 396):
            parts = [min(99, value - 99 * number) for number in range(4) if value >= 99 * number]
            text = f"place a throw {' + '.join(str(part) for part in parts)} pay 0\nfrom 0 to 999 go a"
            self.assertEqual(sum(parts), value)
            play = read_play(read_game(text), f"{value} {value}")
            self.assertEqual((play.shown(), play.open_ways()), (f"{value} {value}", [value]))
            self.assert_no_play(f"0{value}", text)

    def test_a_play_that_was_read_goes_on(self):
        play = read_play(read_game(COIN), "more 2")
        play.back()
        play.throw(1)
        self.assertEqual(play.shown(), "more 1")

    def test_200_steps_and_201(self):
        text = "place a pick 1\nway on go a"
        self.assertEqual(len(read_play(read_game(text), " ".join(["on"] * 200)).shown()), 599)
        self.assert_no_play(" ".join(["on"] * 201), text)

    def test_numbers_that_are_no_values(self):
        for number in ("02", "002", "00", "2.0", "+2", "-2", "1000", "0002", "\u0662", "\u00b2", "2" * 4000, "two", "3", "0"):
            self.assert_no_play(f"more {number}")
        zero = "place a throw 0 pay 0\nfrom 0 to 0 go a"
        self.assertEqual(read_play(read_game(zero), "0 0").shown(), "0 0")
        for number in ("00", "000", "-0", "0000"):
            self.assert_no_play(number, zero)

    def test_blanks_more_or_fewer(self):
        for text in (" ", "  ", " more", "more ", "more  2", "more 2 ", " more 2", "more2", "more\n2", "more\t2", "more\n", "\n",
                     "more 2\n", "more\xa02"):
            self.assert_no_play(text)

    def test_steps_that_are_refused(self):
        for text in ("keep", "2", "more more", "more 3", "more 2 2", "more 1 more", "more 1 1", "more 2 keep keep", "More", "x",
                     "more 2 keep 1", "back", "more back"):
            self.assert_no_play(text)
        self.assert_no_play("3 x", SHUT)
        self.assert_no_play("x", "place a end 1")

    def test_things_that_are_no_text(self):
        for thing in (None, True, 0, 2, 1.5, b"", b"more", [], ["more"], ("more",), {}, str, Play(read_game(COIN))):
            self.assert_no_play(thing)


class TestEven(PlayCase):
    """What is even about a play: its points and the worth that fits where it stands."""

    def sum_at(self, play, states, worths):
        number = states.index(play.stands())
        return Fraction(*play.points()) + (Fraction(*worths[number]) if play.open_ways() else 0)

    def assert_even(self, source, game, board, states, words):
        worths = best(board)[0]
        play = Play(game)
        for turn in range(25):
            steps = play.open_ways()
            if not steps:
                self.assertEqual(board[states.index(play.stands())][0], "end")
                return
            number = states.index(play.stands())
            here = self.sum_at(play, states, worths)
            sums = []
            for step in steps:
                take(play, step)
                sums.append(self.sum_at(play, states, worths))
                play.back()
            if board[number][0] == "throw":
                weights = [told for pool, told in POOLS if pool == dict(game[1])[states[number][0]][1]][0]
                total = sum(weights.values())
                self.assertEqual(here, sum(Fraction(weights[value], total) * one for value, one in zip(steps, sums)))
            else:
                self.assertEqual(steps, words[number])
                for way, one in enumerate(sums):
                    picks = [way if place == number else (0 if board[place][0] == "pick" else None)
                             for place in range(len(board))]
                    self.assertEqual(one - here, -Fraction(*slips(board, worths, picks)[number]))
            take(play, source.choice(steps))

    def test_along_many_plays(self):
        source = random.Random(272)
        for game, board in some_ending_games(source, 60, spread, best):
            told = spread(game)
            for turn in range(3):
                self.assert_even(source, game, *told)

    def test_along_named_ones(self):
        source = random.Random(273)
        game = read_game(COIN)
        for turn in range(10):
            self.assert_even(source, game, *spread(game))


class TestApart(PlayCase):
    def test_the_game_that_is_handed_in_is_as_it_was(self):
        for text, steps in ((COIN, "more 2 keep"), (ROUND, "6 on 1 low")):
            game = read_game(text)
            kept = copy.deepcopy(game)
            told_by(read_play(game, steps))
            self.assertEqual(game, kept)

    def test_a_change_of_the_game_later_does_not_reach_the_play(self):
        for steps in ("", "6", "6 on 1"):
            game = read_game(ROUND)
            play = read_play(game, steps)
            kept = told_by(play)
            for name, what in game[1]:
                if what[0] in ("throw", "pick"):
                    for row in what[-1]:
                        row[2].clear()
                        row[2].append(("set", "c", 9))
                    what[-1].clear()
                if what[0] == "throw":
                    what[1].clear()
            game[0].clear()
            game[1].clear()
            self.assertEqual(told_by(play), kept)
            while play.shown():
                play.back()
            for step in (1, "low"):
                take(play, step)
            self.assertEqual(told_by(play), (("e", [0, 1]), (1, 2), [], "1 low"))

    def test_pools_are_the_plays_own_though_no_table_was_asked_for(self):
        game = read_game(ROUND)
        play = Play(game)
        game[1][0][1][1][0] = ("dice", 1, 6)
        self.assertEqual(play.open_ways(), [1, 2, 4, 5, 6])

    def test_a_change_of_what_was_told_changes_nothing_told_otherwise(self):
        for steps in ("", "6", "6 on 1 low"):
            play = read_play(read_game(ROUND), steps)
            kept = told_by(play)
            stands = play.stands()
            stands[1][0] = 7
            stands[1].clear()
            play.open_ways().append("x")
            play.open_ways().clear()
            self.assertEqual(told_by(play), told_by(read_play(read_game(ROUND), steps)))
            self.assertEqual(told_by(play), kept)

    def test_what_was_told_stays_as_it_was_behind_steps(self):
        play = Play(read_game(ROUND))
        first = told_by(play)
        kept = copy.deepcopy(first)
        play.throw(6)
        second = told_by(play)
        also = copy.deepcopy(second)
        play.say("on")
        play.throw(2)
        play.back()
        self.assertEqual((first, second), (kept, also))

    def test_two_plays_of_one_game_go_apart(self):
        game = read_game(COIN)
        one, other = Play(game), Play(game)
        one.say("more")
        one.throw(2)
        self.assertEqual(told_by(other), (("choose", [0]), (0, 1), ["more"], ""))
        other.say("more")
        other.throw(1)
        self.assertEqual((one.shown(), other.shown()), ("more 2", "more 1"))


if __name__ == "__main__":
    unittest.main()
