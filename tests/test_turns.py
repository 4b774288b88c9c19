"""[G1]: turns."""

import copy
import unittest

import plain
from plain import EXAMPLES, FIRM, HIGH_ONLY, LOW_ONLY, NO_WAY, ODD_VALUES, Played, some_turns
from sixkeepers.errors import TooHard
from sixkeepers.forms import is_answer
from sixkeepers.keepers import kept_by
from sixkeepers.turns import good, hinges, turns_error, won, won_from

N, L = (2, ((0, 1), (1, 0))), (2, ((0, 0), (0, 1), (1, 1)))
T = ((N,), 2, ((0, (0, 1)),))
KINDS = [("both",), ("either",), ("most",), ("odd",), ("most", "odd"), ("both", "either", "most")]


def handed(turns, unknown):
    return turns[:unknown] + ({"some": "all", "all": "some"}[turns[unknown]],) + turns[unknown + 1:]


class Turns(unittest.TestCase):
    def assertTooHard(self, unknowns, function):
        with self.assertRaises(TooHard) as caught:
            function()
        self.assertEqual(vars(caught.exception), {"size": unknowns})

    def check(self, case, turns, chance):
        before = copy.deepcopy(case)
        played = Played(case, turns)
        self.assertIs(won(case, turns), played.wins[()], (case, turns))
        for begin in played.wins if case[1] < 4 else chance.sample(sorted(played.wins), 8):
            self.assertIs(won_from(case, turns, begin), played.wins[begin], (case, turns, begin))
            if len(begin) < case[1]:
                told = good(case, turns, begin)
                self.assertTrue(plain.same(told, played.good(begin, turns[len(begin)])), (case, turns, begin))
        right = tuple(k for k in range(case[1]) if Played(case, handed(turns, k)).wins[()] != played.wins[()])
        self.assertTrue(plain.same(hinges(case, turns), right), (case, turns))
        self.assertTrue(all(turns[k] == ("some" if played.wins[()] else "all") for k in right))
        self.assertTrue(plain.same(case, before))
        return played.wins[()]

    def test_examples(self):
        told = [
            turns_error(T, ("some", "any")), turns_error(T, ("some",)), won(T, ("all", "some")),
            won(T, ("some", "all")),
            won_from(T, ("some", "all"), (0, 1)),
        ]
        self.assertEqual(told, [(1, "word"), (None, "turns"), True, False, True])
        told = [good(T, ("all", "some"), (0,)), good(T, ("all", "some"), ()), good(T, ("some", "all"), (0,)),
            good(T, ("some", "all"), ())]
        self.assertEqual(told, [(1,), (), (0,), ()])
        told = [hinges(T, ("all", "some")), hinges(T, ("some", "all")), hinges(T, ("all", "all"))]
        self.assertEqual(told, [(1,), (1,), (1,)])

    def test_turns_error(self):
        chance = plain.chance_of(141)
        for many in range(1, 41):
            case = ((N,), many, ())
            turns = some_turns(chance, many)
            self.assertIsNone(turns_error(case, turns))
            for value in (turns + ("some",), turns[1:], list(turns), " ".join(turns), {word: word for word in turns}):
                self.assertEqual(turns_error(case, value), (None, "turns"))
            for value in ODD_VALUES + ("Some", "all ", "any", ("some",), ["all"]):
                at = chance.randrange(many)
                self.assertEqual(turns_error(case, turns[:at] + (value,) + turns[at + 1:]), (at, "word"))
                self.assertEqual(turns_error(case, turns[:at] + (value,) * (many - at)), (at, "word"))
        for value in ODD_VALUES:
            told = turns_error(T, value)
            self.assertEqual(told, (0, "word") if isinstance(value, tuple) and len(value) == 2 else (None, "turns"),
                value)

    def test_firm(self):
        chance = plain.chance_of(142)
        for words in KINDS:
            both = []
            for _ in range(150):
                stock = plain.kept_stock(chance, words)
                many = chance.randint(1, 6)
                case = plain.some_case(chance, stock, many, chance.choice((2, 3, 5)))
                both.append(self.check(case, some_turns(chance, many, chance.choice((0.2, 0.5))), chance))
            self.assertTrue(min(both.count(True), both.count(False)) > 15, words)

    def test_other_stocks(self):
        chance = plain.chance_of(143)
        both = []
        for _ in range(60):
            for stock in (LOW_ONLY, HIGH_ONLY, NO_WAY, plain.some_stock(chance, (1, 2, 3, 4, 5))):
                many = chance.randint(1, 7)
                case = plain.some_case(chance, stock, many, 3)
                both.append(self.check(case, some_turns(chance, many, 0.3), chance))
        self.assertTrue(min(both.count(True), both.count(False)) > 40)

    def test_ten_unknowns(self):
        chance = plain.chance_of(144)
        for stock in (LOW_ONLY, NO_WAY, (L,), (N,), (EXAMPLES["O"],)):
            for _ in range(3):
                case = (stock, 10, tuple(plain.some_fact(chance, stock, 10) for _ in range(4)))
                self.check(case, some_turns(chance, 10, 0.2), chance)

    def test_one_sort_of_turns(self):
        chance = plain.chance_of(145)
        for _ in range(40):
            for words in KINDS:
                many = chance.randint(1, 5)
                case = plain.some_case(chance, plain.kept_stock(chance, words), many, 4)
                found = plain.answers(case)
                self.assertIs(won(case, ("some",) * many), bool(found))
                self.assertIs(won(case, ("all",) * many), len(found) == 2 ** many)

    def test_great_against_parts(self):
        # Games that have no unknown in common: all of them must be won.
        chance = plain.chance_of(146)
        for word in FIRM:
            seen = []
            while len(seen) < 30 or len(set(seen)) < 2:
                stock = plain.kept_stock(chance, (word,), (2, 2, 3, 3, 4))
                great = plain.Blocks(chance, stock, (6, 6, 6, 6, 6, 6, 4), chance.choice((1, 2, 4)))
                turns = list(some_turns(chance, 40, 0.1))
                played = []
                for lot, _ in great.parts:
                    small = (stock, len(lot), great.within(lot))
                    game = Played(small, [turns[k] for k in lot])
                    if not game.wins[()] and chance.random() < 0.8:
                        for k in lot:
                            turns[k] = "some"
                        game = Played(small, ["some"] * len(lot))
                    played.append((lot, game))
                turns = tuple(turns)
                for many in (0, 1, 7, 20, 33, 39, 40):
                    begin = self.begin(chance, played, many)
                    right = all(game.wins[tuple(begin[k] for k in lot if k < many)] for lot, game in played)
                    self.assertIs(won_from(great.case, turns, begin), right)
                    seen.append(right)
                    if many < 40:
                        ends = [
                            all(game.wins[tuple((begin + (value,))[k] for k in lot if k <= many)] for lot,
                                game in played)
                            for value in (0, 1)
                        ]
                        fit = tuple(value for value in (0, 1) if ends[value] == (turns[many] == "some"))
                        self.assertEqual(good(great.case, turns, begin), fit)

    def begin(self, chance, played, many):
        """A beginning that mostly stays won where it can."""
        begin = ()
        for unknown in range(many):
            lot, game = next(pair for pair in played if unknown in pair[0])
            ahead = tuple(begin[k] for k in lot if k < unknown)
            fit = [value for value in (0, 1) if game.wins[ahead + (value,)]]
            begin += (chance.choice(fit if fit and chance.random() < 0.97 else (0, 1)),)
        return begin

    def test_great(self):
        chance = plain.chance_of(147)
        for word in FIRM:
            for _ in range(8):
                stock = plain.kept_stock(chance, (word,), (2, 3, 4, 5))
                case = (stock, 40, tuple(plain.some_fact(chance, stock, 40) for _ in range(80)))
                turns = some_turns(chance, 40, 0.3)
                begin = tuple(chance.randint(0, 1) for _ in range(chance.choice((0, 1, 5, 39))))
                self.check_fit(case, turns, begin)
                row = tuple(chance.randint(0, 1) for _ in range(40))
                self.assertIs(won_from(case, turns, row), is_answer(case, row))

    def check_fit(self, case, turns, begin):
        """What good tells fits what won_from tells."""
        told = good(case, turns, begin)
        mine = turns[len(begin)] == "some"
        fit = tuple(value for value in (0, 1) if won_from(case, turns, begin + (value,)) == mine)
        self.assertEqual(told, fit)
        self.assertIs(won_from(case, turns, begin), (told != ()) == mine)

    def test_chains_at_forty(self):
        # Each of "some" must be as the one of "all" ahead of it, or behind it.
        pairs = tuple((0, (k, k + 1)) for k in range(0, 40, 2))
        self.assertIs(won(((N,), 40, pairs), ("all", "some") * 20), True)
        self.assertIs(won(((N,), 40, pairs), ("some", "all") * 20), False)
        self.assertIs(won(((N,), 40, pairs), ("all", "some") * 19 + ("some", "all")), False)
        up = tuple((0, (k, k + 1)) for k in range(39))
        self.assertIs(won(((L,), 40, up), ("all",) + ("some",) * 39), True)
        self.assertIs(won(((L,), 40, up), ("some",) * 39 + ("all",)), True)
        self.assertIs(won(((L,), 40, up), ("all",) + ("some",) * 38 + ("all",)), False)
        self.assertIs(won(((L,), 40, up), ("some", "all") + ("some",) * 38), True)
        self.assertEqual(good(((L,), 40, up), ("some", "all") + ("some",) * 38, ()), (0,))
        self.assertEqual(good(((L,), 40, up), ("all",) + ("some",) * 38 + ("all",), ()), (1,))

    def test_what_is_told_ahead_goes_over(self):
        # For 1 the second one asks 1 of the first one, and so, with 0, 1 of all the others and of itself.
        rise = (3, ((0, 0, 0), (1, 0, 1), (1, 1, 1)))
        link, back = plain.rows_but(2, (1, 0)), plain.rows_but(3, (1, 1, 0))
        for item, word in ((0, "both"), (1, "either")):
            stock = tuple(
                (arity, tuple(sorted(tuple(item ^ one for one in row) for row in rows))) for arity,
                rows in (rise, link, back)
            )
            self.assertIn(word, kept_by(stock))
            for unknowns in (4, 40):
                case = (stock, unknowns, ((0, (0, 1, 2)), (1, (2, 3)), (2, (2, 3, 1))))
                turns = ("some", "all") + ("some",) * (unknowns - 2)
                self.assertIs(won(case, turns), False)
                self.assertEqual(good(case, turns, ()), ())
                self.assertEqual([good(case, turns, (value,)) for value in (0, 1)], [(1,), (0,)])
                self.assertIs(won(case, ("all",) + turns[:1] + turns[2:]), True)

    def test_too_hard(self):
        plainly = ((EXAMPLES["T"], (2, ((0, 0), (0, 1), (1, 0), (1, 1)))), ((1, (0, 1)),))
        for unknowns in (11, 14, 15, 40):
            for stock, facts in ((NO_WAY, ()), (LOW_ONLY, ()), (HIGH_ONLY, ()), plainly, (NO_WAY, ((0, (0, 0, 0)),))):
                case = (stock, unknowns, facts)
                for turns in (("some",) * unknowns, ("all",) * unknowns):
                    for function in (
                        lambda: won(case, turns), lambda: won_from(case, turns, ()),
                        lambda: won_from(case, turns, (0,) * unknowns),
                        lambda: good(case, turns, ()), lambda: hinges(case, turns),
                    ):
                        self.assertTooHard(unknowns, function)
            for stock in ((N,), (L,), NO_WAY):
                self.assertTooHard(unknowns, lambda: hinges((stock, unknowns, ()), ("some",) * unknowns))
            self.assertIs(won(((L,), unknowns, ()), ("all",) * unknowns), True)
        self.assertIs(won((NO_WAY, 10, ()), ("all",) * 10), True)
        self.assertEqual(hinges((NO_WAY, 10, ((0, (7, 8, 9)),)), ("some",) * 10), (9,))

    def test_again(self):
        case = ((N, L), 4, ((0, (0, 1)), (1, (1, 2)), (1, (2, 3))))
        turns = ("some", "some", "all", "some")
        told = [(won(case, turns), good(case, turns, (1,)), hinges(case, turns)) for _ in range(2)]
        self.assertEqual(told[0], told[1])
        self.assertEqual(turns, ("some", "some", "all", "some"))


if __name__ == "__main__":
    unittest.main()
