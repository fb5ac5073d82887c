import random
import unittest
from fractions import Fraction

from boards import COIN, some_ending_games, some_game, some_rule, steps_of

from pressluck.best import best
from pressluck.desk import Desk
from pressluck.ends import ring
from pressluck.errors import LuckError, NoEnd, NoGame, NoRow, NoRule, NoStep, NoWay, TooMany
from pressluck.games import read_game, show_game
from pressluck.judging import judged
from pressluck.plays import read_play
from pressluck.rules import show_rule
from pressluck.shares import show_share
from pressluck.spread import spread

OTHER = "place x pick 2\nway none go y\nway low go z\nplace y end 3/2\nplace z end -1"
# The pick can stay for ever; the throw ahead of it and the end can't.
RINGED = """count c 1
count d 2
place w throw d2 pay 1
from 1 to 1 plus d 2 go x
from 2 to 2 go e
place x pick 1
way on go x
way up plus c 1 go x
way off go e
place e end 5"""
SHUT = "count c 1\nplace a throw d2 pay 2\nfrom 1 to 1 go b\nfrom 2 to 2 go e\nplace b pick 1\nway x if c from 1 go a\nplace e end 1"
GREAT = "count c 60\ncount d 60\nplace a throw d2 pay 1\nfrom 1 to 1 plus c 1 go a\nfrom 2 to 2 plus d 1 go e\nplace e end 1" \
        "\nplace f end 0"
# 62 places go round, and each throw can end: a part that is too great.
PARTED = """count c 30
place x throw d3 pay 0
from 1 to 1 set c 0 go y
from 2 to 2 plus c 1 go y
from 3 to 3 go e
place y pick 1
way a go x
way b go e
place e end 0"""
PLAIN = ("back", "play", "points", "worth", "pick", "even", "ring")
WORTHS = ("worth", "pick", "even", "rule 1\n", "rule 2\nchoose more")
NO_ROWS = (
    "", " ", "\n", "x", "game", "rule", "rule 1", "rule 2", "rule 0", "rule 3", "rule 3\n", "rule 0\n", "rule\n", "rule 12\n",
    "rule  1\n", "rule 1 \n", " rule 1\n", "rule 01\n", "rule1\n", "rule 1 2\n", "rule one\n", "Rule 1\n", "game \n", " game\n",
    "Game\n", "games\n", "game x\n", "game\r\n" + OTHER, "game\r" + OTHER, "game " + OTHER, "say", "say ", "say  ", "say  more",
    "say more ", " say more", "say more more", "say more\n", "say \n", "say\n", "say\nmore", "say more\nmore", "Say more",
    "saymore", "say\tmore", "throw", "throw ", "throw  1", "throw 1 ", " throw 1", "throw 01", "throw 00", "throw 1000",
    "throw -1", "throw +1", "throw 1.0", "throw x", "throw 1 1", "throw 1\n", "throw\n1", "Throw 1", "throw \u0661",
    "throw \u00b2", "throw 1/2", "throw " + "9" * 3000, "throw 000", "throw 0001",
) + tuple(row + more for row in PLAIN for more in (" ", "\n", " 1", "s", "\t", "\n\n", " " + row)) + tuple(
    more + row for row in PLAIN for more in (" ", "\n", "x")) + tuple(row.upper() for row in PLAIN)
NO_TEXTS = (None, True, False, 0, 1, 1.5, b"play", [], ["play"], ("play",), {}, str)
ROWS = PLAIN + ("say more", "say x", "say 1", "say \t", "say none\r", "say \u00e9", "throw 0", "throw 1", "throw 999", "rule 1\n",
                "rule 2\nx y", "rule 1\nno rule", "rule 2\n\n")


class DeskCase(unittest.TestCase):
    def desk(self, text=None, *rows):
        desk = Desk()
        for row in ([] if text is None else ["game\n" + text]) + list(rows):
            self.assertEqual(desk.tell(row), "ok")
        return desk

    def seen(self, desk):
        """All that can be seen of the desk, refusals too."""
        found = []
        for row in PLAIN[1:]:
            try:
                found.append(desk.tell(row))
            except LuckError as refusal:
                found.append((refusal.__class__, getattr(refusal, "places", None)))
        return found

    def assert_refused(self, refusal, desk, row):
        kept = self.seen(desk)
        with self.subTest(repr(row)), self.assertRaises(refusal) as caught:
            desk.tell(row)
        self.assertEqual(self.seen(desk), kept)
        return getattr(caught, "exception", None)

    def assert_told(self, desk, **told):
        for row, due in told.items():
            self.assertEqual(desk.tell(row), due, row)
            self.assertIs(type(desk.tell(row)), str)


class TestRows(DeskCase):
    def test_a_whole_play(self):
        desk = self.desk(COIN)
        self.assert_told(desk, play="", points="0", worth="1/3", pick="more", even="1/3", ring="none")
        self.assertEqual(desk.tell("say more"), "ok")
        self.assert_told(desk, play="more", points="0", worth="1/3", pick="none", even="1/3", ring="none")
        self.assertEqual(desk.tell("throw 2"), "ok")
        self.assert_told(desk, play="more 2", points="1/3", worth="1", pick="keep", even="4/3", ring="none")
        self.assertEqual(desk.tell("say keep"), "ok")
        self.assert_told(desk, play="more 2 keep", points="4/3", worth="1", pick="none", even="4/3", ring="none")
        self.assertEqual(desk.tell("back"), "ok")
        self.assertEqual(desk.tell("say more"), "ok")
        self.assertEqual(desk.tell("throw 1"), "ok")
        self.assert_told(desk, play="more 2 more 1", points="-1/3", worth="-1", pick="none", even="-1/3", ring="none")

    def test_an_end_at_the_start(self):
        desk = self.desk("place a end -3/2")
        self.assert_told(desk, play="", points="-3/2", worth="-3/2", pick="none", even="-3/2", ring="none")

    def test_a_word_that_is_none(self):
        desk = self.desk(OTHER)
        self.assert_told(desk, pick="low", worth="-1", points="0")
        self.assertEqual(desk.tell("say none"), "ok")
        self.assert_told(desk, play="none", points="3/2", even="3/2", pick="none")

    def test_rules(self):
        desk = self.desk(COIN)
        for row, due in (("rule 1\n", "worse 1/4 1/12"), ("rule 1\nchoose keep", "good 1/3"), ("rule 2\n", "good 1/3"),
                         ("rule 1\nchoose more", "worse 1/4 1/12"), ("rule 1\nchoose keep if sum from 2", "worse 1/4 1/12"),
                         ("rule 1\nx y\nchoose keep if sum from 1\nchoose more", "good 1/3")):
            self.assertEqual(desk.tell(row), due)
        desk = self.desk(OTHER)
        self.assertEqual([desk.tell(row) for row in ("rule 2\n", "rule 2\nx low", "rule 1\n")],
                         ["worse 3/2 5/2", "good -1", "good -1"])

    def test_rules_are_judged_from_the_start_wherever_the_play_stands(self):
        desk = self.desk(COIN, "say more", "throw 2", "say keep")
        self.assertEqual(desk.tell("rule 1\n"), "worse 1/4 1/12")
        self.assertEqual(desk.tell("rule 1\nchoose keep"), "good 1/3")
        self.assert_told(desk, play="more 2 keep")

    def test_rings(self):
        self.assert_told(self.desk(RINGED), ring="x:0,2 x:1,2")
        self.assert_told(self.desk("place a pick 1\nway x go b\nway y go c\nplace b throw d2 pay 0\nfrom 1 to 2 go a\nplace c end 0"),
                         ring="a b")
        self.assert_told(self.desk("count c 2\nplace a pick 2\nway x plus c 1 go a"), ring="a:0 a:1 a:2")

    def test_another_game_begins_anew(self):
        desk = self.desk(COIN, "say more", "throw 2")
        desk.tell("even")
        self.assertEqual(desk.tell("game\n" + OTHER), "ok")
        self.assert_told(desk, play="", points="0", worth="-1", pick="low", even="-1", ring="none")
        self.assertEqual(desk.tell("game\n" + COIN), "ok")
        self.assert_told(desk, play="", worth="1/3")
        desk.tell("say more")
        self.assertEqual(desk.tell("game\n" + COIN), "ok")
        self.assert_told(desk, play="", pick="more")

    def test_desks_stand_apart(self):
        one, other = self.desk(COIN), self.desk(OTHER)
        one.tell("say more")
        other.tell("say low")
        self.assertEqual((one.tell("play"), other.tell("play"), one.tell("worth"), other.tell("worth")),
                         ("more", "low", "1/3", "-1"))
        self.assert_refused(NoGame, Desk(), "play")


class TestNoRow(DeskCase):
    def test_without_a_game_with_one_and_with_one_that_is_refused(self):
        for desk in (Desk(), self.desk(COIN, "say more"), self.desk(SHUT), self.desk(RINGED)):
            for row in NO_ROWS + NO_TEXTS:
                self.assert_refused(NoRow, desk, row)

    def test_rows_that_are_some_need_a_game(self):
        for row in ROWS:
            self.assert_refused(NoGame, Desk(), row)

    def test_words_of_any_signs_but_blanks_and_line_ends(self):
        desk = self.desk(COIN)
        for word in ("x", "1", "keep", "\t", "more\r", "\u00e9", "say", "a-b", "\xa0", "x" * 3000, "%"):
            self.assert_refused(NoStep, desk, "say " + word)

    def test_signs_put_in_anywhere(self):
        desk = self.desk(COIN)
        for row in PLAIN:
            for place in range(len(row) + 1):
                for sign in " \n\tx":
                    self.assert_refused(NoRow, desk, row[:place] + sign + row[place:])
                if place < len(row):
                    self.assert_refused(NoRow, desk, row[:place] + row[place + 1:])


class TestNoGame(DeskCase):
    def test_a_game_that_is_refused(self):
        for text in ("", " ", "\n", "x", COIN + "\n", "\n" + COIN, COIN.replace("d2", "1d2"), COIN.replace("\n", "\r\n"), "game"):
            self.assert_refused(NoGame, Desk(), "game\n" + text)
            desk = self.desk(COIN, "say more", "throw 2")
            self.assert_refused(NoGame, desk, "game\n" + text)
            self.assert_told(desk, play="more 2", worth="1", pick="keep", even="4/3")

    def test_there_is_still_none_behind_a_refusal(self):
        desk = Desk()
        for turn in range(2):
            self.assert_refused(NoGame, desk, "game\n")
            for row in ROWS:
                self.assert_refused(NoGame, desk, row)
        self.assertEqual(desk.tell("game\n" + COIN), "ok")
        self.assert_told(desk, play="")


class TestNoStep(DeskCase):
    def test_as_the_play_refuses(self):
        desk = self.desk(COIN)
        for row in ("say keep", "say 1", "throw 1", "throw 2", "back"):
            self.assert_refused(NoStep, desk, row)
        desk.tell("say more")
        for row in ("say more", "say 1", "throw 0", "throw 3", "throw 999"):
            self.assert_refused(NoStep, desk, row)
        desk.tell("throw 1")
        for row in ("say more", "throw 1", "throw 2"):
            self.assert_refused(NoStep, desk, row)
        desk.tell("back")
        desk.tell("back")
        self.assert_refused(NoStep, desk, "back")

    def test_the_201st_step(self):
        desk = self.desk("place a throw d2 pay 1\nfrom 1 to 1 go a\nfrom 2 to 2 go e\nplace e end 0", *["throw 1"] * 200)
        self.assert_told(desk, points="200", worth="2", even="202")
        self.assert_refused(TooMany, desk, "throw 2")
        self.assert_refused(NoStep, desk, "throw 3")
        self.assert_refused(NoStep, desk, "say a")
        self.assertEqual(desk.tell("back"), "ok")
        self.assertEqual(desk.tell("throw 2"), "ok")
        self.assert_told(desk, points="200", even="200")


class TestNoRule(DeskCase):
    def test_ahead_of_all_else_where_there_is_a_game(self):
        for text in (COIN, RINGED, SHUT, GREAT, PARTED):
            desk = self.desk(text)
            for who in (1, 2):
                for rule in ("x", " ", "\n", "a b\n", "a b if c", "a b if c from 01", "a  b", "\n".join(["a b"] * 31), "A b"):
                    self.assert_refused(NoRule, desk, f"rule {who}\n{rule}")

    def test_behind_that_there_is_no_game(self):
        self.assert_refused(NoGame, Desk(), "rule 1\nx")
        self.assert_refused(NoGame, Desk(), "rule 2\n\n")


class TestRefusedBoards(DeskCase):
    def test_a_ring(self):
        for rows in ((), ("throw 1",), ("throw 1", "say up"), ("throw 1", "say up", "say off"), ("throw 2",)):
            desk = self.desk(RINGED, *rows)
            for row in WORTHS:
                self.assertEqual(self.assert_refused(NoEnd, desk, row).places, [1, 3])
            self.assert_told(desk, ring="x:0,2 x:1,2")

    def test_a_pick_without_an_open_way(self):
        for rows in ((), ("throw 1",), ("throw 2",)):
            desk = self.desk(SHUT, *rows)
            for row in WORTHS + ("ring",):
                self.assert_refused(NoWay, desk, row)
        desk = self.desk(SHUT, "throw 2")
        self.assert_told(desk, play="2", points="3")

    def test_too_many_states(self):
        for rows in ((), ("throw 1",), ("throw 2",)):
            desk = self.desk(GREAT, *rows)
            for row in WORTHS + ("ring",):
                self.assert_refused(TooMany, desk, row)
        self.assert_told(self.desk(GREAT, "throw 1", "throw 2"), play="1 2", points="3")

    def test_a_part_that_is_too_great(self):
        for rows in ((), ("throw 2",), ("throw 2", "say b"), ("throw 3",)):
            desk = self.desk(PARTED, *rows)
            for row in WORTHS:
                self.assert_refused(TooMany, desk, row)
            self.assert_told(desk, ring="none")

    def test_a_good_game_behind_a_refused_one(self):
        for text in (RINGED, SHUT, GREAT, PARTED):
            desk = self.desk(text)
            self.seen(desk)
            desk.tell("game\n" + COIN)
            self.assert_told(desk, worth="1/3", ring="none")
            desk.tell("game\n" + text)
            self.assertRaises((NoEnd, NoWay, TooMany), desk.tell, "worth")


class TestMany(DeskCase):
    def assert_as_told_apart(self, desk, game, rows):
        board, states, words = spread(game)
        worths, picks = best(board)
        play = read_play(game, " ".join(rows))
        number = states.index(play.stands())
        place = board[number]
        worth = Fraction(*worths[number]) if place[0] != "end" else 0
        even = Fraction(*play.points()) + worth
        self.assert_told(desk, play=play.shown(), points=show_share(play.points()), worth=show_share(worths[number]),
                         pick=words[number][picks[number]] if place[0] == "pick" else "none", even=str(even), ring="none")

    def test_plays_against_what_is_told_apart(self):
        source = random.Random(281)
        for game, board in some_ending_games(source, 50, spread, best):
            desk = self.desk(show_game(game))
            states = spread(game)[1]
            state = (states[0][0], tuple(states[0][1]))
            rows = []
            self.assert_as_told_apart(desk, game, rows)
            while steps_of(game, state) and len(rows) < 12:
                word, state = source.choice(steps_of(game, state))
                self.assertEqual(desk.tell(f"say {word}" if isinstance(word, str) else f"throw {word}"), "ok")
                rows.append(str(word))
                self.assert_as_told_apart(desk, game, rows)

    def test_rules_against_what_is_told_apart(self):
        source = random.Random(282)
        seen = []
        for game, board in some_ending_games(source, 60, spread, best):
            desk = self.desk(show_game(game))
            for who in (1, 2):
                rule = some_rule(source, game, source.randint(0, 4))
                told = judged(game, rule, who)
                due = " ".join([told[0]] + [show_share(one) for one in told[1:3]])
                self.assertEqual(desk.tell(f"rule {who}\n{show_rule(rule)}"), due)
                seen.append(told[0])
        self.assertEqual(set(seen), {"good", "worse"})

    def test_rings_against_what_is_told_apart(self):
        source = random.Random(283)
        rings = 0
        for turn in range(150):
            game = some_game(source, source.randint(0, 3), source.randint(2, 8), 3, False)
            desk = self.desk(show_game(game))
            try:
                board, states, words = spread(read_game(show_game(game)))
            except TooMany:
                self.assert_refused(TooMany, desk, "ring")
                continue
            shown = [states[number][0] + ":" * bool(game[0]) + ",".join(str(count) for count in states[number][1])
                     for number in ring(board)]
            rings += bool(shown)
            self.assert_told(desk, ring=" ".join(shown) or "none")
        self.assertGreater(rings, 30)

    def test_even_along_a_play(self):
        desk = self.desk(COIN)
        sums = [Fraction(desk.tell("even"))]
        for rows in (("say more",), ("throw 2",), ("say more",)):
            for row in rows:
                desk.tell(row)
                sums.append(Fraction(desk.tell("even")))
        # The best pick changes nothing; the throw is even in the mean; more instead of keep loses its slip, 1/6.
        self.assertEqual(sums[0], sums[1])
        desk.tell("back")
        desk.tell("back")
        desk.tell("throw 1")
        self.assertEqual((sums[2] + Fraction(desk.tell("even"))) / 2, sums[1])
        self.assertEqual(sums[3] - sums[2], Fraction(-1, 6))


if __name__ == "__main__":
    unittest.main()
