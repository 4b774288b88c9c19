"""[G2]: papers of games that are lost, as lost_paper makes them."""

import copy
import time
import unittest

import plain
from plain import EXAMPLES, FIRM, HIGH_ONLY, LOW_ONLY, NO_WAY, Played, rows_but, rows_of_sum, some_turns
from sixkeepers.errors import TooHard
from sixkeepers.turnchecker import is_lost_paper
from sixkeepers.turnpapers import lost_paper
from sixkeepers.turns import won

N, L = (2, ((0, 1), (1, 0))), (2, ((0, 0), (0, 1), (1, 1)))
T = ((N,), 2, ((0, (0, 1)),))
KINDS = [("both",), ("either",), ("most",), ("odd",), ("most", "odd"), ("both", "either", "most")]


def turns_of_all_kinds(chance, many):
    return [("some",) * many, ("all",) * many, some_turns(chance, many, 0.15), some_turns(chance, many)]


class Papers(unittest.TestCase):
    def assertTooHard(self, unknowns, function):
        with self.assertRaises(TooHard) as caught:
            function()
        self.assertEqual(vars(caught.exception), {"size": unknowns})

    def check(self, case, turns, game=None):
        """Returns the sort of the paper."""
        before = copy.deepcopy(case)
        paper = lost_paper(case, turns)
        wins = Played(case, turns).wins[()] if game is None else game
        self.assertIs(paper is None, wins, (case, turns, paper))
        self.assertIs(won(case, turns), wins)
        self.assertTrue(plain.same(case, before))
        if paper is None:
            return None
        self.assertIs(plain.is_lost_paper(case, turns, paper), True, (case, turns, paper))
        self.assertIs(is_lost_paper(case, turns, paper), True, (case, turns, paper))
        self.assertTrue(plain.same(lost_paper(case, turns), paper))
        if case[1] > 10:
            self.assertNotEqual(paper[0], "tree")
        return paper[0]

    def test_examples(self):
        turns = ("some", "all")
        self.assertIs(is_lost_paper(T, turns, lost_paper(T, turns)), True)
        self.assertIsNone(lost_paper(T, turns[::-1]))

    def test_firm(self):
        chance = plain.chance_of(151)
        for words in KINDS:
            told = []
            while len(told) < 400:
                stock = plain.kept_stock(chance, words)
                many = chance.randint(1, 6)
                case = plain.some_case(chance, stock, many, chance.choice((1, 2, 3, 5)))
                # A fact that stands twice.
                case = case[:2] + (case[2] + case[2][:chance.randint(0, 1)],)
                told += [self.check(case, turns) for turns in turns_of_all_kinds(chance, many)]
            self.assertGreater(told.count(None), 40, words)
            self.assertGreater(len(told) - told.count(None), 80, words)

    def test_other_stocks(self):
        chance = plain.chance_of(152)
        told = []
        for _ in range(40):
            for stock in (LOW_ONLY, HIGH_ONLY, NO_WAY, plain.some_stock(chance, (1, 2, 3, 4, 5))):
                many = chance.randint(1, 6)
                case = plain.some_case(chance, stock, many, 3)
                told += [self.check(case, turns) for turns in turns_of_all_kinds(chance, many)]
        self.assertGreater(told.count(None), 100)
        self.assertGreater(told.count("tree"), 100)

    def test_ten_unknowns(self):
        chance = plain.chance_of(153)
        for stock in (LOW_ONLY, NO_WAY, (EXAMPLES["T"], N, L), (L,), (N,), (EXAMPLES["O"],), (rows_of_sum(3, 1),)):
            for many in (0, 1, 4, 20, 80):
                case = (stock, 10, tuple(plain.some_fact(chance, stock, 10) for _ in range(many)))
                for turns in turns_of_all_kinds(chance, 10):
                    self.check(case, turns)

    def test_promise(self):
        chance = plain.chance_of(154)
        for _ in range(150):
            words = chance.choice(KINDS + [None])
            stock = plain.some_stock(chance) if words is None else plain.kept_stock(chance, words)
            many = chance.randint(1, 5)
            case = plain.some_case(chance, stock, many, 4)
            found = plain.answers(case)
            self.assertIs(lost_paper(case, ("some",) * many) is None, len(found) > 0)
            self.assertIs(lost_paper(case, ("all",) * many) is None, len(found) == 2 ** many)

    def test_great(self):
        # With so many facts most games are lost, with few of them some are won.
        chance = plain.chance_of(155)
        began = time.monotonic()
        for words in KINDS:
            told = []
            for many in (80, 80, 80, 40, 20, 10, 10, 5, 5, 2, 2):
                stock = plain.kept_stock(chance, words, (2, 3, 4, 5))
                case = (stock, 40, tuple(plain.some_fact(chance, stock, 40) for _ in range(many)))
                for turns in turns_of_all_kinds(chance, 40):
                    told.append(self.check(case, turns, won(case, turns)))
            self.assertGreater(len(told) - told.count(None), 10)
            self.assertIn(None, told)
        self.assertLess(time.monotonic() - began, 60)

    def test_great_against_parts(self):
        chance = plain.chance_of(156)
        for word in FIRM:
            told = []
            while len(told) < 40 or len(set(told)) < 2:
                stock = plain.kept_stock(chance, (word,), (2, 2, 3, 3, 4))
                great = plain.Blocks(chance, stock, (6, 6, 6, 6, 6, 6, 4), chance.choice((1, 2)))
                turns = list(some_turns(chance, 40, 0.1))
                games = []
                for lot, _ in great.parts:
                    small = (stock, len(lot), great.within(lot))
                    if not Played(small, [turns[k] for k in lot]).wins[()] and chance.random() < 0.9:
                        for k in lot:
                            turns[k] = "some"
                    games.append(Played(small, [turns[k] for k in lot]).wins[()])
                told.append(self.check(great.case, tuple(turns), all(games)))

    def test_great_by_a_single_fact(self):
        chance = plain.chance_of(157)
        same = (2, ((0, 0), (1, 1)))
        for stock, last, sort in (
            ((rows_but(3, (1, 1, 0)), same), (1, (20, 30)), "halves"),
            ((rows_but(3, (0, 0, 1)), same), (1, (20, 30)), "halves"),
            ((L, EXAMPLES["O"], N), (2, (20, 30)), "walk"),
            ((rows_of_sum(3, 0), same), (1, (20, 30)), "sums"),
        ):
            # All other facts are about unknowns of "some" ahead of the two, and can be kept.
            facts = []
            while len(facts) < 79:
                facts.append((0, plain.some_fact(chance, stock[:1], 15)[1]))
            turns = ("some",) * 30 + ("all",) + ("some",) * 9
            self.assertEqual(self.check((stock, 40, tuple(facts) + (last,)), turns, False), sort)
            self.assertIsNone(self.check((stock, 40, tuple(facts)), turns, True))

    def test_great_by_a_long_row(self):
        up = tuple((0, (k, k + 1)) for k in range(39))
        ends = ("all",) + ("some",) * 38 + ("all",)
        for stock, sort in (
            ((L, rows_but(3, (1, 1, 0))), "halves"), ((L, rows_but(3, (0, 0, 1))), "halves"),
            ((L, EXAMPLES["O"], (2, ((0, 0), (0, 1), (1, 0)))), "walk"), ((N,), "sums"),
        ):
            facts = up + up
            self.assertIsNone(self.check((stock, 40, facts), ("all",) + ("some",) * 39, True))
            if stock != (N,):
                self.assertEqual(self.check((stock, 40, facts[:78]), ends, False), sort)
                self.assertIsNone(self.check((stock, 40, (up[:20] + up[21:]) * 2), ends, True))
        odd = (rows_of_sum(2, 1), rows_of_sum(3, 0))
        self.assertEqual(self.check((odd, 40, up + up), ends, False), "sums")
        self.assertEqual(self.check((odd, 40, up), ("some",) * 39 + ("all",), False), "sums")

    def test_great_by_what_all_chooses_alone(self):
        # All but the last unknown let the last one be 0 or 1 as one likes, but all of them together do not.
        rise, fall = rows_but(3, (1, 1, 0)), rows_but(3, (0, 0, 1))
        for stock, bar in (((rise, L, (2, ((0, 0), (0, 1), (1, 0)))), 2), ((fall, L, EXAMPLES["O"]), 2)):
            facts = [(0, (0, 1, 20))] + [(0, (k, 18 + k, 19 + k)) for k in range(2, 19)] + [(bar, (37, 19))]
            case = (stock, 40, tuple(facts))
            alls = ("all",) * 20 + ("some",) * 20
            self.assertEqual(self.check(case, alls, False), "halves")
            self.assertIsNone(self.check(case, ("all",) * 19 + ("some",) * 21, True))
            self.assertIsNone(self.check(case, ("some",) + alls[1:], True))
        most = (L, EXAMPLES["O"], (2, ((0, 0), (0, 1), (1, 0))))
        self.assertEqual(self.check((most, 40, ((1, (3, 39)),)), ("all",) * 40, False), "walk")
        odd = (rows_of_sum(4, 1), rows_of_sum(3, 0), rows_of_sum(2, 1))
        self.assertEqual(self.check((odd, 40, ((0, (3, 9, 5, 39)),)), ("all",) * 40, False), "sums")

    def test_what_is_told_ahead_goes_over(self):
        # Each of the two plays tells something of an unknown ahead, and both do not go together.
        rise = (3, ((0, 0, 0), (1, 0, 1), (1, 1, 1)))
        link, back = rows_but(2, (1, 0)), rows_but(3, (1, 1, 0))
        for item in (0, 1):
            stock = tuple(
                (arity, tuple(sorted(tuple(item ^ one for one in row) for row in rows))) for arity,
                rows in (rise, link, back)
            )
            for unknowns in (4, 40):
                case = (stock, unknowns, ((0, (0, 1, 2)), (1, (2, 3)), (2, (2, 3, 1))))
                turns = ("some", "all") + ("some",) * (unknowns - 2)
                self.assertEqual(self.check(case, turns, False), "halves")
                self.assertIs(lost_paper(case, turns)[2] is None, False)

    def test_too_hard(self):
        plainly = ((EXAMPLES["T"], (2, ((0, 0), (0, 1), (1, 0), (1, 1)))), ((1, (0, 1)),))
        for unknowns in (11, 14, 15, 40):
            for stock, facts in ((NO_WAY, ()), (LOW_ONLY, ()), (HIGH_ONLY, ()), plainly, (NO_WAY, ((0, (0, 0, 0)),))):
                case = (stock, unknowns, facts)
                for turns in (("some",) * unknowns, ("all",) * unknowns):
                    self.assertTooHard(unknowns, lambda: lost_paper(case, turns))
            self.assertIsNone(lost_paper(((L,), unknowns, ()), ("all",) * unknowns))
        self.assertEqual(lost_paper((NO_WAY, 10, ((0, (9, 9, 9)),)), ("some",) * 10), ("tree", 0))


if __name__ == "__main__":
    unittest.main()
