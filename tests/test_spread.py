import copy
import math
import random
import unittest
from fractions import Fraction

from boards import COIN, POOLS, some_game, states_of, steps_of

from pressluck.errors import NoWay, TooMany
from pressluck.games import read_game
from pressluck.parts import reached
from pressluck.spread import spread

COIN_BOARD = [("pick", 1, [1]), ("throw", (1, 3), [(1, 2), (1, 3)]), ("end", (-1, 1)), ("pick", 1, [4, 5]),
              ("throw", (1, 3), [(1, 2), (1, 6)]), ("end", (1, 1)), ("end", (2, 1))]
COIN_STATES = [("choose", [0]), ("cast", [0]), ("lost", [0]), ("choose", [1]), ("cast", [1]), ("won", [1]), ("won", [2])]
COIN_WORDS = [["more"], [], [], ["more", "keep"], [], [], []]


def step_text(counts, deeds, pool="3"):
    """A game that throws once, does the deeds and ends."""
    return f"{counts}\nplace a throw {pool} pay 0\nfrom 0 to 999 {deeds} go b\nplace b end 0"


def counted(states, then="go a"):
    """A game of just so many states: two counts, the first counting up to 59, then the second."""
    return (f"count a 60\ncount b 60\nplace x ask a from 60 go y else go\nplace y ask b from {states - 61} go end else wait\n"
            f"place go pick 1\nway w plus a 1 go x\nplace wait pick 1\nway w plus b 1 go y\nplace end {then}")


def expected(game):
    """What is due: "no way", "too many" or (board, states, words), by states found in another way."""
    states = states_of(game)
    places = dict(game[1])
    numbers = {state: number for number, state in enumerate(states)}
    found = {states[0]}
    board = []
    words = []
    for state in states:
        what = places[state[0]]
        steps = steps_of(game, state)
        if what[0] == "pick" and not steps:
            return "no way"
        for word, to in steps:
            found.add(to)
            if len(found) > 120:
                return "too many"
        ways = [numbers[to] for word, to in steps]
        words.append([word for word, to in steps] if what[0] == "pick" else [])
        if what[0] == "throw":
            weights = [told for pool, told in POOLS if pool == what[1]][0]
            board.append(("throw", what[2], [(weights[value], to) for (value, state), to in zip(steps, ways)]))
        elif what[0] == "pick":
            board.append(("pick", what[1], ways))
        elif what[0] == "end":
            board.append(what)
        else:
            board.append(("end", (dict(zip([name for name, most in game[0]], state[1]))[what[1]], 1)))
    return (board, [(name, list(numbers)) for name, numbers in states], words)


class SpreadCase(unittest.TestCase):
    def states(self, text):
        return spread(read_game(text))[1]

    def assert_refused(self, refusal, text):
        with self.assertRaises(refusal):
            spread(read_game(text))

    def assert_told(self, game, due):
        told = spread(game)
        self.assertEqual(told, due)
        self.assertEqual([type(told)] + [type(part) for part in told], [tuple, list, list, list])
        board, states, words = told
        self.assertEqual(reached(board, 0), list(range(len(board))))
        self.assertEqual(len({(name, tuple(counts)) for name, counts in states}), len(states))
        for place, state, said in zip(board, states, words):
            self.assertEqual([type(place), type(state), type(state[1]), type(said)], [tuple, tuple, list, list])
            self.assertEqual(len(said), len(place[2]) if place[0] == "pick" else 0)


class TestNamed(SpreadCase):
    def test_a_game_of_a_coin(self):
        self.assert_told(read_game(COIN), (COIN_BOARD, COIN_STATES, COIN_WORDS))

    def test_one_place(self):
        self.assert_told(read_game("place x end 5/2"), ([("end", (5, 2))], [("x", [])], [[]]))
        self.assert_told(read_game("count c 3\ncount d 1\nplace x score d"), ([("end", (0, 1))], [("x", [0, 0])], [[]]))

    def test_places_that_never_come_are_not_there(self):
        text = "place x throw d2 pay 0\nfrom 1 to 2 go z\nplace y pick 2\nway w go y\nplace z end 1"
        self.assert_told(read_game(text), ([("throw", (0, 1), [(1, 1), (1, 1)]), ("end", (1, 1))],
                                           [("x", []), ("z", [])], [[], []]))

    def test_both_persons_and_words_in_their_order(self):
        text = "place x pick 2\nway z go y\nway a go x\nway m go y\nplace y pick 1\nway w go x"
        self.assert_told(read_game(text), ([("pick", 2, [1, 0, 1]), ("pick", 1, [0])], [("x", []), ("y", [])],
                                           [["z", "a", "m"], ["w"]]))

    def test_names_of_places_and_counts_that_are_one(self):
        text = "count x 1\nplace x pick 1\nway x plus x 1 go x\nway y if x from 1 go y\nplace y score x"
        self.assert_told(read_game(text), ([("pick", 1, [1]), ("pick", 1, [1, 2]), ("end", (1, 1))],
                                           [("x", [0]), ("x", [1]), ("y", [1])], [["x"], ["x", "y"], []]))


class TestDeeds(SpreadCase):
    def behind(self, counts, deeds, pool="3"):
        return self.states(step_text(counts, deeds, pool))[1][1]

    def test_each(self):
        self.assertEqual(self.behind("count c 9", "set c 4"), [4])
        self.assertEqual(self.behind("count c 9", "plus c 4"), [4])
        self.assertEqual(self.behind("count c 9", "face c"), [3])
        self.assertEqual(self.behind("count c 9\ncount d 9", "set c 4 move c d"), [0, 4])
        self.assertEqual(self.behind("count c 9", "set c 0"), [0])

    def test_several_in_their_order(self):
        self.assertEqual(self.behind("count c 9", "set c 4 plus c 2"), [6])
        self.assertEqual(self.behind("count c 9", "plus c 2 set c 4"), [4])
        self.assertEqual(self.behind("count c 9", "face c plus c 1 face c"), [7])
        self.assertEqual(self.behind("count c 9\ncount d 9", "plus c 1 move c d plus c 2"), [2, 1])
        self.assertEqual(self.behind("count c 9\ncount d 9", "plus c 1 plus d 2 move c d move d c"), [3, 0])
        self.assertEqual(self.behind("count c 9\ncount d 9", "move c d face c"), [3, 0])
        self.assertEqual(self.behind("count c 9\ncount d 9\ncount e 9", "face c move c d face c move d e face d plus c 1"),
                         [4, 3, 3])

    def test_counts_stay_at_their_most(self):
        for most in (1, 2, 5):
            for deeds in ("set c 999", "plus c 999", "set c 6", "face c face c", "plus c 3 plus c 3", "set d 9 move d c"):
                self.assertEqual(self.behind(f"count c {most}\ncount d 60", deeds)[0], most)
        self.assertEqual(self.behind("count c 3", "face c"), [3])
        self.assertEqual(self.behind("count c 3", "set c 3"), [3])
        self.assertEqual(self.behind("count c 4", "set c 3 plus c 0"), [3])

    def test_what_is_lost_at_the_most_does_not_come_back(self):
        self.assertEqual(self.behind("count c 2\ncount d 9", "face c move c d"), [0, 2])
        self.assertEqual(self.behind("count c 9\ncount d 2", "face c move c d move d c"), [2, 0])
        self.assertEqual(self.behind("count c 2\ncount d 9", "plus c 999 move c d plus c 1"), [1, 2])

    def test_face_adds_each_value(self):
        states = self.states(step_text("count c 60", "face c", "2d2 + 7"))
        self.assertEqual([counts for name, counts in states], [[0], [9], [10], [11]])
        states = self.states("count c 60\nplace a throw d6 pay 0\nfrom 4 to 6 face c go b\nfrom 1 to 3 set c 9 face c go b\n"
                             "place b end 0")
        self.assertEqual([counts for name, counts in states], [[0], [10], [11], [12], [4], [5], [6]])

    def test_deeds_at_picks(self):
        text = ("count c 5\ncount d 5\nplace a pick 1\nway p plus c 2 go b\nway q set d 3 move d c go b\nway r go b\n"
                "place b end 0")
        self.assertEqual(self.states(text), [("a", [0, 0]), ("b", [2, 0]), ("b", [3, 0]), ("b", [0, 0])])


class TestAsking(SpreadCase):
    def test_at_the_start(self):
        text = "count c 2\nplace a ask c from {} go x else y\nplace x end 1\nplace y end 2"
        self.assertEqual(self.states(text.format(0)), [("x", [0])])
        self.assertEqual(self.states(text.format(1)), [("y", [0])])

    def test_one_asking_leads_to_another(self):
        text = ("count c 9\nplace a ask c from {} go b else w\nplace b ask c from {} go d else x\n"
                "place d ask c from 0 go y else w\nplace w end 0\nplace x end 1\nplace y end 2")
        self.assertEqual(self.states(text.format(0, 0)), [("y", [0])])
        self.assertEqual(self.states(text.format(0, 1)), [("x", [0])])
        self.assertEqual(self.states(text.format(1, 0)), [("w", [0])])

    def test_behind_ways_after_their_deeds(self):
        text = ("count c 9\nplace a throw d6 pay 0\nfrom 1 to 6 face c go ask\nplace ask ask c from 3 go more else less\n"
                "place less score c\nplace more ask c from 6 go most else much\nplace much score c\nplace most score c")
        self.assertEqual(self.states(text), [("a", [0]), ("less", [1]), ("less", [2]), ("much", [3]), ("much", [4]),
                                             ("much", [5]), ("most", [6])])
        text = ("count c 9\nplace a pick 1\nway x set c 3 go ask\nway y set c 2 go ask\nplace ask ask c from 3 go m else n\n"
                "place m end 1\nplace n end 2")
        self.assertEqual(self.states(text), [("a", [0]), ("m", [3]), ("n", [2])])

    def test_an_ask_is_no_state(self):
        for name, counts in self.states(COIN):
            self.assertNotEqual(name, "at")


class TestWays(SpreadCase):
    def throw_of(self, pool):
        return spread(read_game(f"place a throw {pool} pay 0\nfrom 0 to 999 go b\nplace b end 0"))[0][0]

    def test_weights_are_the_least_that_go_as_the_shares(self):
        for pool, weights in (("d6", [1] * 6), ("2d2", [1, 2, 1]), ("hits 2 of 2d3", [1, 4, 4]), ("7", [1]), ("hits 4 of d6", [1, 1]),
                              ("hits 3 of d6", [1, 2]), ("again 1 of d2", [1, 3]), ("hits 20 of d20", [19, 1]),
                              ("burst 1 of d3", [3, 3, 1, 1, 1]), ("hits 7 of 3d6", [1]), ("best 1 of 2d2", [1, 3]),
                              ("hits 6 of 2d6", [25, 10, 1]), ("hits 5 of 2d6", [4, 4, 1]), ("d1 + d1", [1])):
            told = self.throw_of(pool)
            self.assertEqual(told, ("throw", (0, 1), [(weight, 1) for weight in weights]))
            self.assertEqual(math.gcd(*[weight for weight, to in told[2]]), 1)

    def test_one_way_for_each_value_though_several_lead_to_one_state(self):
        board = spread(read_game("place a throw 2d6 pay 2\nfrom 2 to 11 go a\nfrom 12 to 12 go b\nplace b end 0"))[0]
        self.assertEqual(board[0], ("throw", (2, 1), [(weight, 0) for weight in (1, 2, 3, 4, 5, 6, 5, 4, 3, 2)] + [(1, 1)]))

    def test_ways_go_by_value_though_rows_stand_otherwise(self):
        text = "place a throw d3 pay 0\nfrom 3 to 3 go b\nfrom 2 to 2 go c\nfrom 1 to 1 go d\n" + "\n".join(
            f"place {name} end 0" for name in "bcd")
        self.assertEqual([name for name, counts in self.states(text)], ["a", "d", "c", "b"])

    def test_ways_are_open_from_and_below(self):
        text = ("count c 3\nplace a pick 1\nway low if c below 2 plus c 1 go a\nway high if c from 2 plus c 1 go a\n"
                "way never if c from 4 go b\nway always if c below 4 go b\nplace b end 0")
        told = spread(read_game(text))
        self.assertEqual([(state, words) for state, words in zip(told[1], told[2]) if state[0] == "a"],
                         [(("a", [0]), ["low", "always"]), (("a", [1]), ["low", "always"]),
                          (("a", [2]), ["high", "always"]), (("a", [3]), ["high", "always"])])

    def test_below_0_is_never_open_and_from_0_always(self):
        text = "count c 1\nplace a pick 1\nway x if c below 0 go a\nway y if c from 0 go b\nplace b end 0"
        self.assertEqual(spread(read_game(text))[2], [["y"], []])


class TestRefused(SpreadCase):
    def test_a_pick_without_an_open_way(self):
        self.assert_refused(NoWay, "count c 1\nplace a pick 1\nway x if c from 1 go a")
        self.assert_refused(NoWay, "count c 1\nplace a pick 2\nway x if c below 1 plus c 1 go a\nway y if c below 0 go a")
        self.assert_refused(NoWay, "count c 1\nplace a throw d6 pay 0\nfrom 1 to 5 go a\nfrom 6 to 6 go b\nplace b pick 1\n"
                                   "way x if c from 1 go a")

    def test_such_a_pick_that_never_comes(self):
        self.assertEqual(self.states("count c 1\nplace a end 0\nplace b pick 1\nway x if c from 1 go a"), [("a", [0])])

    def test_120_states_and_121(self):
        for size in (119, 120):
            self.assertEqual(len(self.states(counted(size, "end 0"))), size)
        self.assert_refused(TooMany, counted(121, "end 0"))

    def test_120_and_121_states_the_last_found_by_a_throw(self):
        text = ("count a 60\ncount b 2\nplace s pick 1\nway p go t\nway q set b 1 go t\nway r set b 2 go u\n"
                "place t throw 2d20 pay 0\nfrom 2 to 40 face a go e\n"
                "place u throw {} pay 0\nfrom 2 to 40 face a go e\nplace e end 0")
        self.assertEqual(len(self.states(text.format("d20 + d19"))), 120)
        self.assert_refused(TooMany, text.format("2d20"))

    def test_many_states_far_beyond(self):
        text = "\n".join([f"count {name} 60" for name in "abcd"] + ["place x throw d20 pay 0"]
                         + ["from 1 to 5 face a go x", "from 6 to 10 face b go x", "from 11 to 15 face c go x",
                            "from 16 to 20 face d go x"])
        self.assert_refused(TooMany, text)

    def test_no_way_at_the_119th_and_the_120th_state(self):
        for size in (119, 120):
            self.assert_refused(NoWay, counted(size, "pick 1\nway w if a below 1 go end"))
        self.assert_refused(TooMany, counted(121, "pick 1\nway w if a below 1 go end"))

    def test_whichever_comes_first(self):
        # Place n has no open way. It is found by the first throw, and taken up ahead of the states of the chain or behind.
        chain = "place m throw d20 + d20 pay 0\nfrom 0 to 999 face a go x\nplace x throw d20 pay 0\nfrom 1 to 20 face b go x\n"
        shut = "place n pick 1\nway w if a from 60 go n"
        counts = "count a 59\ncount b 60\n"
        self.assert_refused(NoWay, f"{counts}place s pick 1\nway v go n\nway w go m\n{chain}{shut}")
        self.assert_refused(NoWay, f"{counts}place s pick 1\nway v go m\nway w go n\n{chain}{shut}")
        self.assert_refused(TooMany, f"{counts}place s pick 1\nway v go m\nway w go r\n{chain}{shut}\n"
                                     "place r throw 0 pay 0\nfrom 0 to 0 go q\nplace q throw 0 pay 0\nfrom 0 to 0 go p\n"
                                     "place p throw 0 pay 0\nfrom 0 to 0 go n")

    def test_states_that_are_never_taken_up(self):
        # The 121st state is found while the first one is taken up: the picks without a way behind it never are.
        rows = "\n".join(f"from {value} to {value} plus b {value % 2} face a go n" for value in range(1, 21))
        shut = "place n pick 1\nway w if c from 1 go n"
        head = "count a 60\ncount b 60\ncount c 1\n"
        self.assert_refused(NoWay, f"{head}place s throw d20 pay 0\n{rows}\n{shut}")
        wide = "\n".join(f"way {word} set b {number} go t" for number, word in enumerate("pqrs"))
        values = "place t throw d20 + d20 pay 0\nfrom 2 to 40 face a go n"
        self.assert_refused(TooMany, f"{head}place s pick 1\n{wide}\n{values}\n{shut}")
        self.assert_refused(NoWay, f"{head}place s pick 1\n{wide}\nplace t throw d20 pay 0\nfrom 1 to 20 face a go n\n{shut}")

    def test_behind_a_refusal_all_is_as_it_was(self):
        for turn in range(2):
            self.assert_refused(NoWay, "count c 1\nplace a pick 1\nway x if c from 1 go a")
            self.assert_refused(TooMany, counted(121, "end 0"))
            self.assertEqual(spread(read_game(COIN)), (COIN_BOARD, COIN_STATES, COIN_WORDS))


class TestMany(SpreadCase):
    def test_against_states_found_by_another_way(self):
        source = random.Random(221)
        seen = {"no way": 0, "too many": 0, "told": 0}
        for turn in range(600):
            if turn % 4:
                game = some_game(source, source.randint(0, 3), source.randint(1, 9), source.choice((2, 3, 5)))
            else:
                game = some_game(source, 3, source.randint(6, 12), 9, source.random() < 0.2)
            due = expected(game)
            seen[due if isinstance(due, str) else "told"] += 1
            if due == "no way":
                self.assertRaises(NoWay, spread, game)
            elif due == "too many":
                self.assertRaises(TooMany, spread, game)
            else:
                self.assert_told(game, due)
        for kind, number in seen.items():
            self.assertGreater(number, 10, kind)

    def test_shares_of_the_weights_are_those_of_the_pools(self):
        for pool, weights in POOLS:
            game = ([], [("a", ("throw", pool, (0, 1), [(0, 999, [], "a")]))])
            ways = spread(game)[0][0][2]
            total = sum(weight for weight, to in ways)
            self.assertEqual([Fraction(weight, total) for weight, to in ways],
                             [Fraction(weights[value], sum(weights.values())) for value in sorted(weights)])


class TestSomewhatBeyond(SpreadCase):
    def test_games_beyond_the_bounds_are_answered(self):
        counts = [(name, 61) for name in ("a", "b", "c", "d", "abcdefghi")]
        rows = [(word, None, [("plus", "abcdefghi", 1000)] * 7, "x") for word in ("p", "q", "r", "s", "t")]
        places = [(f"p{number}", ("end", (0, 1))) for number in range(31)]
        told = spread((counts, [("x", ("pick", 1, rows))] + places))
        self.assertEqual(told, ([("pick", 1, [1] * 5)] * 2, [("x", [0] * 5), ("x", [0, 0, 0, 0, 61])],
                                [["p", "q", "r", "s", "t"]] * 2))


class TestApart(SpreadCase):
    def test_what_is_handed_in_is_as_it_was(self):
        source = random.Random(222)
        for turn in range(60):
            game = some_game(source)
            kept = copy.deepcopy(game)
            try:
                spread(game)
            except (NoWay, TooMany):
                pass
            self.assertEqual(game, kept)

    def test_a_change_of_what_was_told_changes_nothing_told_otherwise(self):
        game = read_game(COIN)
        kept = copy.deepcopy(game)
        first = spread(game)
        second = spread(game)
        for place in first[0]:
            if place[0] != "end":
                place[2].clear()
        for name, counts in first[1]:
            counts.append(7)
        for words in first[2]:
            words.append("x")
        for part in first:
            part.clear()
        self.assertEqual(second, (COIN_BOARD, COIN_STATES, COIN_WORDS))
        self.assertEqual(game, kept)
        self.assertEqual(spread(game), second)

    def test_no_list_of_the_told_stands_there_twice(self):
        told = spread(read_game("place a pick 1\nway x go b\nway y go c\nplace b throw d2 pay 0\nfrom 1 to 2 go c\nplace c end 0"))
        lists = [place[2] for place in told[0] if place[0] != "end"] + [counts for name, counts in told[1]] + told[2]
        self.assertEqual(len({id(one) for one in lists}), len(lists))

    def test_a_change_of_the_handed_in_game_changes_nothing_told(self):
        game = read_game(COIN)
        told = spread(game)
        game[0].clear()
        game[1][1][1][2].clear()
        game[1][2][1][1].clear()
        game[1].clear()
        self.assertEqual(told, (COIN_BOARD, COIN_STATES, COIN_WORDS))


if __name__ == "__main__":
    unittest.main()
