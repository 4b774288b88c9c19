"""[G2]: what is a paper of a game that is lost, whoever made it."""

import copy
import unittest

import plain
from plain import EXAMPLES, HIGH_ONLY, LOW_ONLY, NO_WAY, ODD_VALUES, Played, rows_of_sum, some_turns
from sixkeepers.turnchecker import is_lost_paper
from sixkeepers.turnpapers import lost_paper

X, O, I, T = [EXAMPLES[name] for name in "XOIT"]
S, A = "some", "all"
E, NOT_BOTH, SUM = (2, ((0, 0), (1, 1))), (2, ((0, 0), (0, 1), (1, 0))), rows_of_sum(3, 1)
# No keeper keeps it: so no case of it with more than ten unknowns is playable.
STOCK = (X, I, T, SUM, O)
KINDS = [("both",), ("either",), ("most",), ("odd",), ("most", "odd"), ("both", "either", "most")]


def case_of(unknowns, *facts):
    return (STOCK, unknowns, facts)


class Checked(unittest.TestCase):
    def check(self, case, turns, paper, wanted):
        """By both checkers; what shows that a game is lost is true."""
        before = copy.deepcopy((case, paper))
        self.assertIs(plain.is_lost_paper(case, turns, paper), wanted, paper)
        self.assertIs(is_lost_paper(case, turns, paper), wanted, paper)
        self.assertTrue(plain.same((case, paper), before))
        if wanted and case[1] <= 8:
            self.assertFalse(Played(case, turns).wins[()])

    def further(self, case, unknowns):
        """The same with more unknowns behind, none of which stands in a fact."""
        return case[:1] + (unknowns,) + case[2:]

    def both_sizes(self, case, turns, paper, wanted):
        self.check(case, turns, paper, wanted)
        for unknowns in (11, 40):
            self.check(self.further(case, unknowns), turns + (S,) * (unknowns - len(turns)), paper, wanted)

    def test_examples(self):
        N, L = (2, ((0, 1), (1, 0))), (2, ((0, 0), (0, 1), (1, 1)))
        case, turns = ((N,), 2, ((0, (0, 1)),)), ("some", "all")
        told = [
            is_lost_paper(case, turns, ("walk", ((1, 0), (0, 1), (1, 0)))),
            is_lost_paper(case, turns, ("sums", ((0, ((0, 1), 1)),))),
            is_lost_paper(case, turns, ("tree", ("some", ("all", 0, 0), ("all", 1, 0)))),
            is_lost_paper(case, turns[::-1], ("sums", ((0, ((0, 1), 1)),))),
        ]
        self.assertEqual(told, [True, True, True, False])
        case = ((L,), 2, ((0, (0, 1)),))
        self.assertIs(is_lost_paper(case, ("all", "all"), ("halves", 1, 1, (), (0, 0))), True)

    def test_trees(self):
        case = case_of(3, (0, (0, 1)), (1, (1, 2)), (2, (0, 1, 2)), (0, (2, 2)))
        turns = (S, A, S)
        # A fact of which no row agrees with anything: at each beginning, also ().
        tree = (S, (A, 0, 0), (A, 1, 0))
        for told in (
            3, tree, (S, 3, 3), (S, (A, 0, 3), (A, 1, 0)), (S, (A, 1, (S, 1, 2)), (A, 1, 0)),
            (S, (A, 1, (S, 3, 3)), (A, 1, (S, 0, 0))),
        ):
            self.both_sizes(case, turns, ("tree", told), True)
        for told in (
            0, 4, -1, None, True, 3.0, (3,), [3], (S, 0, 3), (A, 0, 3), (A, 0, (S, 3, 3)), (S, (A, 0, 1), (A, 1, 0)),
            (S, (A, 1, (S, 0, 2)), (A, 1, 0)), (S, (A, 1, (S, 1, 1)), (A, 1, 0)), (S, (S, 0, 0), (A, 1, 0)),
            (S, (A, 2, 0), (A, 1, 0)), (S, (A, False, 0), (A, 1, 0)), (S, [A, 0, 0], (A, 1, 0)), (S, (A, 0, 0)),
            (S, (A, 1, (S, (A, 0, 3), 3)), (A, 1, 0)), (S, (A, 0, False), (A, 1, 0)), ("any", 3, 3), (S, 3, 3, 3),
            (("some",), 3, 3), (None, 3, 3),
        ):
            self.check(case, turns, ("tree", told), False)
        # Behind the last unknown only an index may stand.
        self.check(case_of(1, (0, (0, 0))), (S,), ("tree", (S, (S, 0, 0), 0)), False)
        self.check(case_of(1, (0, (0, 0))), (S,), ("tree", (S, 0, 0)), True)
        # Not of the turns that there are, and of none that is won.
        self.check(case, (A, A, S), ("tree", tree), False)
        self.check(case_of(2, (0, (0, 1))), (S, S), ("tree", (S, (S, 0, 0), (S, 0, 0))), False)

    def test_walks(self):
        # x0 unlike x1, and one of x1 and x2 is 1: 0 leads to 1 from x2 to x1, to 0 at x0.
        case = case_of(4, (0, (0, 1)), (4, (1, 2)))
        turns = (A, S, A, S)
        for points in (
            ((2, 0), (1, 1), (0, 0)), ((0, 1), (1, 0), (2, 1)), ((0, 1), (1, 0), (0, 1), (1, 0), (2, 1)),
            ((2, 0), (2, 0), (1, 1), (1, 1), (0, 0)),
        ):
            self.both_sizes(case, turns, ("walk", points), True)
        for points in (
            (), ((2, 0),), ((2, 0), (0, 0)), ((2, 0), (1, 1)), ((1, 1), (0, 0)), ((0, 1), (1, 0), (0, 1)),
            ((2, 0), (1, 0), (0, 0)), ((2, 1), (1, 1), (0, 0)), [(2, 0), (1, 1), (0, 0)], ((2, 0), [1, 1], (0, 0)),
            ((2, 0), (1, True), (0, 0)), ((2, False), (1, 1), (0, 0)), ((2, 0), (1, 1), (0, 0), (4, 0)),
            ((2, 0), (1, 1, 1), (0, 0)), ((2, 0), (1, 2), (0, 0)), ((2, 0), (-3, 1), (0, 0)), "ab", None,
            ((3, 0), (3, 0)), ((2, 0), ("x", 1), (0, 0)),
        ):
            self.check(case, turns, ("walk", points), False)
        # Ends that are of "some", or of one point.
        self.check(case, (S, S, A, S), ("walk", ((2, 0), (1, 1), (0, 0))), False)
        self.check(case, (A, S, S, S), ("walk", ((2, 0), (1, 1), (0, 0))), False)
        # The same point of "all", and one of "some" ahead of it among the others, or behind it.
        there = ("walk", ((1, 0), (0, 1), (1, 0)))
        self.both_sizes(case, (S, A, S, S), there, True)
        self.check(case, (A, S, S, S), ("walk", ((0, 0), (1, 1), (0, 0))), False)
        self.check(case, (S, S, S, S), there, False)
        self.check(case, (A, A, S, S), there, False)

    def test_walks_with_both_values(self):
        # x1 is as x0 and unlike it.
        case = ((X, E), 3, ((0, (0, 1)), (1, (1, 0))))
        round_trip = ((0, 0), (1, 1), (0, 1), (1, 0), (0, 0))
        self.check(case, (S, S, S), ("walk", round_trip), True)
        self.check(case, (S, A, S), ("walk", round_trip), True)
        self.check(case, (A, S, S), ("walk", round_trip), True)
        self.check(case, (A, A, S), ("walk", round_trip), False)
        # Of one unknown of "all" with both values.
        self.check(case, (A, A, S), ("walk", round_trip[:3]), True)
        self.check(case, (S, S, S), ("walk", round_trip[:3]), False)
        # No row of the fact has the value of the first: so it leads to all of its points.
        bare = ((X, T), 3, ((0, (2, 2)), (1, (0, 0, 1))))
        self.check(bare, (S, S, S), ("walk", ((2, 0), (2, 1), (2, 0))), True)
        self.check(bare, (S, S, A), ("walk", ((2, 0), (2, 1))), True)
        for points in (((0, 1), (0, 0)), ((0, 1), (1, 0), (0, 0)), ((1, 0), (0, 0)), ((1, 0), (1, 1))):
            self.check(bare, (A, A, S), ("walk", points), True)
        for points in (((0, 0), (0, 1)), ((1, 1), (0, 1)), ((1, 1), (1, 0)), ((0, 1), (2, 0))):
            self.check(bare, (A, A, A), ("walk", points), False)

    def test_sums(self):
        # x0 unlike x1; x1, x2 and x3 have an odd number of ones.
        case = case_of(5, (0, (0, 1)), (3, (1, 2, 3)), (3, (3, 3, 2)), (1, (0, 4)))
        pair, three = (0, ((0, 1), 1)), (1, ((0, 1, 2), 1))
        turns = (S, A, S, A, S)
        for items in ((pair,), (three,), (three, pair), (pair, pair, three), (pair, pair, pair), (three, (2, ((0, 1, 2), 1)))):
            self.both_sizes(case, turns, ("sums", items), True)
        for items in (
            (), (pair, pair), (three, three), ((2, ((0, 1, 2), 1)),), ((0, ((0, 1), 0)),), ((0, ((0,), 1)),),
            (three, (0, ((0, 1), 0))), ((1, ((1, 2, 3), 1)),), ((1, ((0, 2, 1), 1)),), ((4, ((0, 1), 1)),),
            ((-1, ((), 0)), three), [pair], ([0, ((0, 1), 1)],), ((0, [(0, 1), 1]),), ((0, ([0, 1], 1)),),
            ((0, ((0, 1), True)),), ((0, ((False, 1), 1)),), ((False, ((0, 1), 1)),), (pair, None), pair, "sum", None,
            ((3, ((1,), 0)),), ((0, ((0, 1), 1), 0),),
        ):
            self.check(case, turns, ("sums", items), False)
        self.check(case, (A, S, A, S, A), ("sums", (pair,)), False)
        # Places that go out: x3 twice. What is left holds for no row, or is not of "all".
        self.check(case, (S, S, A, S, S), ("sums", ((2, ((0, 1, 2), 1)),)), True)
        bare = case_of(2, (0, (1, 1)), (3, (0, 0, 0)))
        self.both_sizes(bare, (S, S), ("sums", (pair,)), True)
        # The sum must hold for all rows, also for those that give one unknown two values.
        self.check(bare, (S, A), ("sums", ((1, ((0,), 1)),)), False)
        self.check(bare, (S, S), ("sums", ((0, ((0,), 1)), (0, ((1,), 0)))), False)
        one = ((E, (1, ((1,),))), 2, ((0, (0, 1)), (1, (0,))))
        self.check(one, (S, S), ("sums", ((0, ((0, 1), 0)), (1, ((0,), 1)))), False)
        self.check(one, (S, A), ("sums", ((0, ((0, 1), 0)), (1, ((0,), 1)))), True)

    def test_halves(self):
        # x0 up to x1, x1 up to x2, not both x2 and x3.
        case = ((I, NOT_BOTH, T), 4, ((0, (0, 1)), (0, (1, 2)), (1, (2, 3)), (2, (0, 3, 3))))
        turns = (A, S, S, A)
        steps = ((0, 0, 1, 1), (0, 1, 2, 1))
        for paper in (
            (1, None, steps, (0, 2)), (1, None, ((1, 0, 1, 1), (1, 1, 2, 1)), (1, 2)), (1, 3, ((1,) + steps[0][1:],
            (1,) + steps[1][1:]), (1, 2)),
            (1, None, ((0, 2, 2, 0), (0, 1, 1, 0)), (0, 0)), (1, None, ((0, 2, 2, 0), (1, 0, 1, 1), (0, 1, 1, 0)), (0, 0)),
            # A target that is held or told already, and steps behind a fact that clashes.
            (1, None, ((0, 0, 0, 1), (0, 0, 1, 1), (0, 0, 1, 1), (0, 1, 2, 1)), (0, 2)),
            (1, None, steps[:1] + ((0, 2, 2, 0),), (0, 1)),
            (1, None, steps + ((0, 0, 0, 1), (1, 2, 2, 0), (1, 1, 1, 0), (1, 2, 3, 1)), (0, 2)),
            # The last fact clashes where x3 is 1.
            (0, 3, (), (1, 3)), (1, 0, (), (0, 3)), (1, None, (), (1, 3)),
        ):
            self.both_sizes(case, turns, ("halves",) + paper, True)
        for paper in (
            (0, None, steps, (0, 2)), (1, None, steps, (1, 2)), (1, None, steps[1:], (0, 2)), (1, None, steps, (0, 1)),
            (1, None, steps, (0, 0)), (1, None, steps[::-1], (0, 2)), (1, 1, steps, (0, 2)), (1, 4, steps, (0, 2)),
            (1, True, steps, (0, 2)), (1, False, steps, (0, 2)), (1, "x", steps, (0, 2)), (1, -1, steps, (0, 2)),
            (True, None, steps, (0, 2)), (2, None, steps, (0, 2)), (None, None, steps, (0, 2)),
            (1, None, list(steps), (0, 2)), (1, None, (list(steps[0]), steps[1]), (0, 2)), (1, None, steps, [0, 2]),
            (1, None, steps, (False, 2)), (1, None, steps, (0, True)), (1, None, steps, (0, 4)), (1, None, steps, None),
            (1, None, ((0, 0, 1, 0), steps[1]), (0, 2)), (1, None, ((0, 0, 1, True), steps[1]), (0, 2)),
            (1, None, ((0, 0, True, 1), steps[1]), (0, 2)), (1, None, ((0, 0, 2, 1), steps[1]), (0, 2)),
            (1, None, steps + ((0, 2, 2, 1),), (0, 2)), (1, None, steps + ((0, 3, 3, 1),), (0, 2)),
            (1, None, ((2, 0, 1, 1), steps[1]), (0, 2)), (1, None, (steps[0] + (0,), steps[1]), (0, 2)),
            (1, None, steps, (0, 2), 0), (1, None, steps), (0, 0, (), (1, 3)), (0, 3, (), (0, 2)),
        ):
            self.check(case, turns, ("halves",) + paper, False)

    def test_halves_that_go_over(self):
        # x1 up to x2, x2 up to x0, x0 and x1 are not both 1; x1 of "all" in the midst, or x3 behind all.
        case = ((I, X, NOT_BOTH), 4, ((0, (3, 0)), (0, (0, 2)), (0, (1, 3)), (1, (1, 2))))
        turns = (S, A, S, S)
        paper = ("halves", 1, 1, ((1, 2, 3, 1), (1, 0, 0, 1), (0, 1, 2, 1)), (1, 3))
        self.check(case, turns, paper, False)
        behind = ("halves", 1, 1, ((1, 2, 3, 1), (1, 0, 0, 1), (1, 1, 2, 1)), (1, 3))
        self.check(case, turns, behind, True)
        # x0 is ahead of x1: what the half 1 tells of it, the half 0 knows; x2 and x3 are not.
        self.check(case, turns, ("halves", 1, 1, ((1, 2, 3, 1), (1, 0, 0, 1), (0, 1, 2, 1)) + behind[3][2:], (1, 3)), True)
        self.check(case, turns, ("halves", 1, 1, ((1, 2, 3, 1), (0, 0, 0, 1)), (1, 3)), False)
        self.check(case, turns, ("halves", 1, None, ((1, 2, 3, 1), (1, 0, 0, 1), (0, 1, 2, 1)), (1, 3)), False)
        self.check(case, turns, ("halves", 1, None, ((1, 2, 3, 1), (1, 0, 0, 1), (1, 1, 2, 1)), (1, 3)), True)
        # The link to x2 in the half 0 does not go back to the half 1.
        self.check(case, turns, ("halves", 1, 1, ((1, 2, 3, 1), (1, 0, 0, 1), (0, 1, 2, 1), (1, 3, 1, 0)), (1, 3)), False)

    def test_papers_of_another_shape(self):
        case, turns = case_of(2, (0, (0, 0))), (S, A)
        for value in ODD_VALUES + (
            ("tree",), ("tree", 0, 0), ["tree", 0], ("Tree", 0), (("tree",), 0), ("walk", ((0, 0), (0, 1), (0, 0)), 0),
            ("sums", ((0, ((0, 1), 1)),), 0), ("halves", 0, None, ()), ("clash", (), 0), (None, 0), ({}, 0),
            ("halves",), ("sums",), ("walk",), ("walk", 0), ("sums", 0), ("halves", 0, None, 0, (0, 0)),
        ):
            self.check(case, turns, value, False)
        for value in (
            ("tree", 0), ("walk", ((0, 0), (0, 1), (0, 0))), ("sums", ((0, ((0, 1), 1)),)), ("halves", 0, None, (), (0, 0)),
            ("halves", 1, 1, (), (1, 0)),
        ):
            self.both_sizes(case, turns, value, True)

    def some_case(self, chance):
        words = chance.choice(KINDS + [None, None])
        if words is None:
            stock = chance.choice((LOW_ONLY, HIGH_ONLY, NO_WAY, STOCK, plain.some_stock(chance)))
        else:
            stock = plain.kept_stock(chance, words)
        many = chance.randint(1, 5)
        return plain.some_case(chance, stock, many, chance.choice((3, 5, 8))), some_turns(chance, many, 0.4)

    def test_changed_papers(self):
        chance = plain.chance_of(161)
        told = {}
        for _ in range(900):
            case, turns = self.some_case(chance)
            paper = lost_paper(case, turns)
            for _ in range(8 if paper is not None else 0):
                value = plain.replaced(paper, chance)
                if chance.random() < 0.3:
                    value = plain.replaced(value, chance)
                right = plain.is_lost_paper(case, turns, value)
                self.check(case, turns, value, right)
                told.setdefault((paper[0], right), []).append(value)
            # A paper of another game says nothing of this one, unless it is one of it, too.
            value = lost_paper(*self.some_case(chance))
            self.check(case, turns, value, plain.is_lost_paper(case, turns, value))
        self.assertEqual(len(told), 8, [(word, len(told[word])) for word in told])

    def some_walk(self, chance, case):
        points = [(chance.randrange(case[1]), chance.randint(0, 1))]
        every = [(unknown, value) for unknown in range(case[1]) for value in (0, 1)]
        while len(points) < 7:
            further = [point for point in every if plain.leads_to(case, points[-1], point)]
            if not further:
                break
            points.append(chance.choice(further))
        return ("walk", tuple(points[:chance.randint(2, 7)]))

    def some_sums(self, chance, case):
        items = []
        for _ in range(chance.randint(1, 4) if case[2] else 0):
            fact = chance.randrange(len(case[2]))
            arity, rows = case[0][case[2][fact][0]]
            good = [one for one in plain.all_sums(arity) if all(plain.holds_sum(one, row) for row in rows)]
            items.append((fact, chance.choice(good)))
        return ("sums", tuple(items))

    def some_halves(self, chance, case, turns):
        alls = [unknown for unknown in range(case[1]) if turns[unknown] == A]
        other, unknown = chance.randint(0, 1), chance.choice(alls + [None])
        every = [
            (half, fact, target, value) for half in (0, 1) for fact in range(len(case[2])) for target in range(case[1])
            for value in (0, 1)
        ]
        chance.shuffle(every)
        clashes = [(half, fact) for half in (0, 1) for fact in range(len(case[2]))]
        steps = ()
        for step in every * 2:
            told = steps + (step,)
            # Any clash will do: behind a step that is none, none is told.
            if self.is_step_of(case, turns, other, unknown, told):
                steps = told
        for clash in clashes:
            if plain.is_losing_halves(case, turns, other, unknown, steps, clash):
                return ("halves", other, unknown, steps, clash)
        return ("halves", other, unknown, steps, chance.choice(clashes + [(0, 0)]))

    def is_step_of(self, case, turns, other, unknown, steps):
        # With a fact more of which no row agrees, the steps are all that can be wrong.
        wider = (case[0] + ((2, ((0, 1),)),), case[1], case[2] + ((len(case[0]), (0, 0)),))
        return plain.is_losing_halves(wider, turns, other, unknown, steps, (0, len(case[2])))

    def some_tree(self, chance, case, turns, wins, begin=()):
        clashing = [fact for fact in range(len(case[2])) if not plain.agreeing(case, fact, list(enumerate(begin)))]
        if len(begin) == case[1] or (clashing and chance.random() < 0.6):
            return chance.choice(clashing or [0])
        ends = [self.some_tree(chance, case, turns, wins, begin + (value,)) for value in (0, 1)]
        if turns[len(begin)] == S:
            return (S, ends[0], ends[1])
        value = chance.choice([value for value in (0, 1) if not wins[begin + (value,)]] or [0, 1])
        return (A, value, ends[value])

    def test_papers_made_by_chance(self):
        chance = plain.chance_of(162)
        told = {}
        for _ in range(350):
            case, turns = self.some_case(chance)
            wins = Played(case, turns).wins
            for paper in (
                self.some_walk(chance, case), self.some_sums(chance, case), self.some_halves(chance, case, turns),
                ("tree", self.some_tree(chance, case, turns, wins)),
            ):
                right = plain.is_lost_paper(case, turns, paper)
                self.check(case, turns, paper, right)
                self.assertFalse(right and wins[()])
                told[paper[0], right] = told.get((paper[0], right), 0) + 1
        for sort in ("walk", "sums", "halves", "tree"):
            self.assertGreater(min(told[sort, True], told[sort, False]), 25, told)

    def test_won_games(self):
        case, turns = ((X,), 2, ((0, (0, 1)),)), (A, S)
        for value in ODD_VALUES + (
            ("walk", ((1, 0), (0, 1), (1, 0))), ("walk", ((0, 0), (1, 1), (0, 0))), ("sums", ((0, ((0, 1), 1)),)),
            ("tree", (A, 0, (S, 0, 0))), ("tree", 0), ("halves", 1, 0, ((0, 0, 1, 1), (1, 0, 1, 0)), (1, 0)),
            ("halves", 0, None, ((0, 0, 1, 1),), (0, 0)),
        ):
            self.check(case, turns, value, False)

    def test_deep_and_great(self):
        # Papers for forty unknowns of a stock that nothing keeps.
        facts = tuple((1, (k, k + 1)) for k in range(39))
        case, turns = (STOCK, 40, facts), (A,) + (S,) * 38 + (A,)
        paper = ("walk", tuple((k, 1) for k in range(40)))
        self.check(case, turns, paper, True)
        self.check(case, turns, ("walk", paper[1][:20] + paper[1][21:]), False)
        steps = tuple((0, k, k + 1, 1) for k in range(38))
        self.check(case, turns, ("halves", 0, 0, tuple((1,) + step[1:] for step in steps), (1, 38)), True)
        self.check(case, turns, ("halves", 0, 0, tuple((1,) + step[1:] for step in steps[1:]), (1, 38)), False)
        tree = 38
        for unknown in range(38, 0, -1):
            tree = (S, unknown - 1, tree if unknown < 38 else (A, 0, 38))
        self.check(case, turns, ("tree", (A, 1, tree)), True)
        self.check(case, turns, ("tree", (A, 0, tree)), False)


if __name__ == "__main__":
    unittest.main()
