"""[H3]: partings; and [A2] (g)."""

import copy
import unittest

import plain
from plain import EXAMPLES, FIRM, HIGH_ONLY, LOW_ONLY, NO_WAY, ODD_VALUES
from sixkeepers.errors import TooHard
from sixkeepers.islands import together
from sixkeepers.keepers import kept_by
from sixkeepers.partings import apart, is_apart
from sixkeepers.sums import case_sums
from sixkeepers.walks import walk

X, O, I, T = [EXAMPLES[name] for name in "XOIT"]
E, NOT_BOTH = (2, ((0, 0), (1, 1))), (2, ((0, 0), (0, 1), (1, 0)))
C = ((X,), 3, ((0, (0, 1)), (0, (1, 2))))
N, P = (0, 1, 0), (1, 0, 1)
KINDS = [("both",), ("either",), ("most",), ("odd",), ("most", "odd"), ("both", "either"), ("low",), ("high",)]


def some_stock(chance):
    if chance.random() < 0.7:
        return chance.choice((plain.kept_stock, plain.sparse_stock))(chance, chance.choice(KINDS))
    return chance.choice((LOW_ONLY, HIGH_ONLY, NO_WAY, plain.some_stock(chance, (1, 2, 3, 4, 5))))


class Partings(unittest.TestCase):
    def assertTooHard(self, unknowns, function):
        with self.assertRaises(TooHard) as caught:
            function()
        self.assertEqual(vars(caught.exception), {"size": unknowns})

    def judge(self, case, one, other, value, wanted):
        before = copy.deepcopy((case, value))
        self.assertIs(plain.is_apart(case, one, other, value), wanted, value)
        self.assertIs(is_apart(case, one, other, value), wanted, value)
        self.assertTrue(plain.same((case, value), before))

    def check(self, case, one, other, right):
        """Returns the sort of the parting."""
        before = copy.deepcopy(case)
        told = apart(case, one, other)
        self.assertIs(told is None, right, (case, one, other))
        self.assertTrue(plain.same(case, before))
        if told is None:
            return None
        self.judge(case, one, other, told, True)
        self.assertTrue(plain.same(apart(case, one, other), told))
        return told[0]

    def test_examples(self):
        A = ((O,), 3, ((0, (0, 1)), (0, (1, 2))))
        told = [
            apart(A, N, P), is_apart(C, N, P, apart(C, N, P)), is_apart(C, N, P, ("ring", ((0, 1, 0), (1, 0, 0)))),
            is_apart(C, N, P, ("ring", ((0, 1, 0), (0, 1, 0)))), is_apart(C, N, P, ("sum", ((0, 1), 1))),
        ]
        self.assertEqual(told, [None, True, True, False, True])
        told = [
            is_apart(C, N, P, ("island", (N,))), is_apart(C, N, P, ("island", (N, P))),
            is_apart(((E,), 2, ((0, (0, 1)),)), (0, 0), (1, 1), ("down", ((0, 0),), ((1, 1),))),
            is_apart(C, N, P, ("down", (N,), (P,))),
        ]
        self.assertEqual(told, [True, False, True, False])

    def pairs(self, chance, rows, many):
        return [(chance.choice(rows), chance.choice(rows)) for _ in range(many)] if rows else []

    def test_small(self):
        chance = plain.chance_of(191)
        told = []
        for _ in range(900):
            case = plain.some_case(chance, some_stock(chance), chance.randint(1, 6), chance.choice((1, 2, 2, 3)))
            home = {row: island for island in plain.islands(case) for row in island}
            for one, other in self.pairs(chance, sorted(home), 5):
                right = home[one] is home[other]
                told.append(self.check(case, one, other, right))
                self.assertIs(walk(case, one, other) is None, not right)
        for sort in ("island", "ring", "sum", "down", "up", None):
            self.assertGreater(told.count(sort), 10, sort)

    def test_ten_unknowns(self):
        chance = plain.chance_of(192)
        for stock in (LOW_ONLY, HIGH_ONLY, NO_WAY, (I,), (X, O), (plain.rows_of_sum(3, 1),), plain.TYPICAL["both"]):
            for many in (3, 6):
                case = (stock, 10, tuple(plain.some_fact(chance, stock, 10) for _ in range(many)))
                home = {row: island for island in plain.islands(case) for row in island}
                for one, other in self.pairs(chance, sorted(home), 4):
                    self.check(case, one, other, home[one] is home[other])

    def some_great(self, chance, words):
        while True:
            stock = chance.choice((plain.kept_stock, plain.sparse_stock))(chance, words, (2, 2, 3, 3, 4))
            great = plain.Blocks(chance, stock, (6, 6, 5, 5, 6, 6, 6), chance.choice((1, 2, 3)))
            if great.has_answers():
                return great

    def spread(self, parts, chance):
        row = [None] * 40
        for lot, rows in parts:
            for unknown, item in zip(lot, chance.choice(rows)):
                row[unknown] = item
        return tuple(row)

    def test_great(self):
        chance = plain.chance_of(193)
        for words in [(word,) for word in FIRM] + [("most", "odd"), ("both", "either")]:
            told = []
            while len(told) < 40 or len(told) - told.count(None) < 6:
                great = self.some_great(chance, words)
                one = self.spread(great.parts, chance)
                homes = []
                for lot, rows in great.parts:
                    homes.append((lot, sorted(plain.steps_from(set(rows), tuple(one[k] for k in lot)))))
                for other in (self.spread(great.parts, chance), self.spread(homes, chance)):
                    right = all(tuple(other[k] for k in lot) in rows for lot, rows in homes)
                    self.assertIs(together(great.case, one, other), right)
                    told.append(self.check(great.case, one, other, right))

    def test_long_ring(self):
        ring = ((I, X), 40, tuple((0, (k, (k + 1) % 40)) for k in range(40)))
        told = apart(ring, (0,) * 40, (1,) * 40)
        self.judge(ring, (0,) * 40, (1,) * 40, told, True)
        steps = tuple((k, 1, k) for k in range(40))
        self.judge(ring, (0,) * 40, (1,) * 40, ("ring", steps), True)
        self.judge(ring, (0,) * 40, (1,) * 40, ("ring", steps + steps), True)
        self.judge(ring, (0,) * 40, (1,) * 40, ("ring", steps[5:] + steps[:5]), True)
        self.judge(ring, (0,) * 40, (1,) * 40, ("ring", steps[::-1]), False)
        self.judge(ring, (0,) * 40, (1,) * 40, ("ring", steps[:39]), False)
        self.judge(ring, (0,) * 40, (1,) * 40, ("ring", steps[:20] + steps[21:]), False)
        self.judge(ring, (1,) * 40, (0,) * 40, ("ring", tuple((k, 0, k - 1 if k else 39) for k in range(39, -1, -1))), True)

    def test_too_hard(self):
        every = ((2, ((0, 0), (0, 1), (1, 0), (1, 1))),)
        for unknowns in (11, 14, 15, 40):
            one = (0,) * unknowns
            for stock in (NO_WAY, LOW_ONLY, HIGH_ONLY, NO_WAY + every):
                self.assertTooHard(unknowns, lambda: apart((stock, unknowns, ()), one, one))
                self.assertIs(is_apart((stock, unknowns, ()), one, one, ("island", (one,))), False)
            for stock in [plain.TYPICAL[word] for word in FIRM]:
                self.assertIsNone(apart((stock, unknowns, ()), one, (1,) * unknowns))
        self.assertIsNone(apart((NO_WAY, 10, ()), (0,) * 10, (1,) * 10))

    def test_islands_by_hand(self):
        # Any stock, and many unknowns: what is free would make islands great, so all stand in facts.
        for unknowns in (4, 40):
            single = tuple((1, (k,)) for k in range(3, unknowns))
            case = ((T, (1, ((0,),))), unknowns, ((0, (0, 1, 2)),) + single)
            rest = (0,) * (unknowns - 3)
            one, other, third = (0, 0, 1) + rest, (0, 1, 0) + rest, (1, 0, 0) + rest
            for rows in ((one,), (one, third)):
                self.judge(case, one, other, ("island", rows), True)
            for rows in (
                (), (other,), (third,), (one, other), (one, other, third), (third, one), (one, one), [one], one,
                (list(one),), ((0, 0, True) + rest,), (one, (1, 1, 0) + rest), (one[1:],), (one, None), None,
            ):
                self.judge(case, one, other, ("island", rows), False)
            self.judge(case, one, one, ("island", (one,)), False)
            # An island that is left by a change.
            wider = case[:2] + (case[2][:-1],)
            left = plain.changed(one, unknowns - 1)
            self.judge(wider, one, other, ("island", (one,)), False)
            self.judge(wider, one, other, ("island", (one, left)), True)

    def test_rings_by_hand(self):
        for unknowns in (3, 11, 40):
            stock = (X, I, T, NOT_BOTH)
            facts = ((1, (0, 1)), (1, (1, 2)), (1, (2, 0)))
            rest = (0,) * (unknowns - 3)
            case, low, high = (stock, unknowns, facts), (0, 0, 0) + rest, (1, 1, 1) + rest
            ring = ((0, 1, 0), (1, 1, 1), (2, 1, 2))
            self.judge(case, low, high, ("ring", ring), True)
            self.judge(case, low, high, ("ring", ring * 2), True)
            self.judge(case, high, low, ("ring", ((0, 0, 2), (2, 0, 1), (1, 0, 0))), True)
            for steps in (
                # one has the value, or other does not.
                ((0, 0, 2), (2, 0, 1), (1, 0, 0)), ((0, 1, 0), (1, 0, 1), (2, 1, 2)),
                # The next one has the same unknown, or there is just one.
                ((0, 1, 0), (0, 1, 0)), ((0, 1, 0),), (), ring[:1] + ring,
                # The fact has not both unknowns, or it does not lead on.
                ((0, 1, 1), (1, 1, 1), (2, 1, 2)), ((0, 1, 0), (1, 1, 0), (2, 1, 2)), ring[:2],
                ((0, 1, 2), (2, 1, 1), (1, 1, 0)), ((0, 1, 3), (1, 1, 1), (2, 1, 2)), ((0, 1, -1), (1, 1, 1), (2, 1, 2)),
                ((0, True, 0),) + ring[1:], ((False, 1, 0),) + ring[1:], ((0, 1, False),) + ring[1:],
                ([0, 1, 0],) + ring[1:], list(ring), ((0, 1),) + ring[1:], ((0, 1, 0, 0),) + ring[1:],
                ((unknowns, 1, 0),) + ring[1:], ((-unknowns, 1, 0),) + ring[1:], (None,) + ring[1:], "ring", None,
            ):
                self.judge(case, low, high, ("ring", steps), False)
            self.judge(case, low, low, ("ring", ring), False)
        # Only rows that agree count: the last one gives the first unknown two values.
        loose = ((3, ((0, 0, 0), (1, 0, 0), (1, 1, 1))),)
        self.judge((loose, 2, ((0, (0, 1, 0)),)), (0, 0), (1, 1), ("ring", ((0, 1, 0), (1, 1, 0))), True)
        self.judge((loose, 3, ((0, (0, 1, 2)),)), (0, 0, 0), (1, 1, 1), ("ring", ((0, 1, 0), (1, 1, 0))), False)
        self.judge((loose, 3, ((0, (0, 1, 2)),)), (0, 0, 0), (1, 1, 1), ("ring", ((1, 1, 0), (2, 1, 0))), True)

    def test_sums_by_hand(self):
        for unknowns in (4, 40):
            rest = (0,) * (unknowns - 4)
            stock = (X, T, plain.rows_of_sum(3, 1))
            case = (stock, unknowns, ((0, (0, 1)), (0, (1, 2))))
            one, other = (0, 1, 0, 0) + rest, (1, 0, 1, 0) + rest
            for places, value in (((0, 1), 1), ((1, 2), 1), ((0, 2), 0)):
                self.judge(case, one, other, ("sum", (places, value)), True)
                self.judge(case, one, other, ("sum", (places, 1 - value)), False)
                self.judge(case, one, one, ("sum", (places, value)), False)
            for value in (
                ((), 0), ((), 1), ((0,), 0), ((0, 3), 0), ((1, 0), 1), ((0, 1), True), ([0, 1], 1), [(0, 1), 1],
                ((0, 1), 1, 0), ((0, unknowns), 1), ((-1, 1), 1), ((0, 1),), None, "sum",
            ):
                self.judge(case, one, other, ("sum", value), False)
            # With both alike at all of its places.
            third = plain.changed(one, 3)
            case = (stock, unknowns, ((0, (0, 1)),))
            self.judge(case, one, third, ("sum", ((0, 1), 1)), False)
            self.judge(case, one, other, ("sum", ((0, 1), 1)), True)
            self.judge(case, one, other, ("sum", ((1, 2), 1)), False)
            # What all answers have is no matter, only what the case's sums make.
            forced = ((E, NOT_BOTH, (1, ((0,),))), 4, ((1, (0, 0)), (0, (1, 2))))
            self.assertEqual(case_sums(forced), (((1, 2), 0),))

    def test_downs_and_ups_by_hand(self):
        for flip in (0, 1):
            word, other_word = ("down", "up") if flip == 0 else ("up", "down")
            turn = (lambda rows: tuple(tuple(item ^ flip for item in row) for row in rows))
            same = (3, turn(((0, 0, 0), (0, 0, 1), (1, 1, 0), (1, 1, 1))))
            stock = ((same[0], tuple(sorted(same[1]))),)
            for unknowns in (4, 40):
                rest = (0,) * (unknowns - 4)
                case = (stock, unknowns, ((0, (0, 1, 2)),))
                row = lambda text: turn((tuple(int(sign) for sign in text) + rest,))[0]
                one, other = row("0011"), row("1110")
                first = (one, row("0001"), row("0000"))
                second = (other, row("1100"))
                self.judge(case, one, other, (word, first, second), True)
                self.judge(case, other, one, (word, second, first), True)
                self.judge(case, one, other, (word, (one, row("0010"), row("0000")), second), True)
                for value in (
                    (other_word, first, second), (word, second, first), (word, first[:2], second), (word, first, second[:1]),
                    (word, first[1:], second), (word, (one,) + first, second), (word, first), (word, first, second, first),
                    (word, list(first), second), (word, first, list(second)), (word, first, first),
                    (word, (one, row("0111"), row("0011"), row("0001"), row("0000")), second),
                    (word, (one, row("0000")), second), (word, (), second), (word, first, ()), (word, None, second),
                    (word, (one, row("0001"), row("0011"), row("0010"), row("0000")), second),
                ):
                    self.judge(case, one, other, value, False)
        # The last ones are alike; the ends are there, but nothing that keeps the stock lets them show something.
        case = ((I,), 3, ((0, (0, 1)),))
        self.judge(case, (0, 1, 0), (0, 0, 1), ("down", ((0, 1, 0), (0, 0, 0)), ((0, 0, 1), (0, 0, 0))), False)
        case = ((X, O), 3, ((1, (0, 1)), (1, (1, 2))))
        self.judge(case, (1, 0, 1), (0, 1, 0), ("down", ((1, 0, 1),), ((0, 1, 0),)), False)
        self.assertIs(together(case, (1, 0, 1), (0, 1, 0)), True)

    def test_papers_of_another_shape(self):
        for value in ODD_VALUES + (
            ("island",), ("ring",), ("sum",), ("down",), ("down", (N,)), ("island", (N,), (P,)), ["island", (N,)],
            (["island"], (N,)), ("Island", (N,)), (None, (N,)), ("ring", ((0, 1, 0), (1, 0, 0)), ()),
        ):
            self.judge(C, N, P, value, False)
        # Of the other stocks no walk down shows anything.
        self.assertEqual(kept_by((X,)), ("most", "odd"))

    def test_changed_partings(self):
        chance = plain.chance_of(194)
        told = {}
        for _ in range(900):
            case = plain.some_case(chance, some_stock(chance), chance.randint(2, 5), chance.choice((1, 2, 2, 3)))
            rows = plain.answers(case)
            for one, other in self.pairs(chance, rows, 4):
                parting = apart(case, one, other)
                for _ in range(5 if parting is not None else 0):
                    value = plain.replaced(parting, chance)
                    right = plain.is_apart(case, one, other, value)
                    self.judge(case, one, other, value, right)
                    told[parting[0], right] = told.get((parting[0], right), 0) + 1
                if parting is not None:
                    # What parts these two need not part others.
                    for third, fourth in self.pairs(chance, rows, 2) + [(other, one)]:
                        self.judge(case, third, fourth, parting, plain.is_apart(case, third, fourth, parting))
        self.assertEqual({sort for sort, right in told}, {"island", "ring", "sum", "down", "up"})
        self.assertTrue(all(told[sort, False] > 30 for sort, right in told), told)
        self.assertTrue(any(right for sort, right in told))

    def test_any_parting_is_right(self):
        # Whatever is accepted: the answers are not together.
        chance = plain.chance_of(195)
        right = []
        for _ in range(400):
            case = plain.some_case(chance, some_stock(chance), chance.randint(2, 5), chance.choice((1, 2, 3)))
            islands = plain.islands(case)
            rows = sorted(row for island in islands for row in island)
            for one, other in self.pairs(chance, rows, 3):
                home = next(island for island in islands if one in island)
                values = [("island", home), ("island", tuple(sorted(chance.sample(rows, chance.randint(1, len(rows))))))]
                places = [k for k in range(case[1]) if one[k] != other[k]]
                for _ in range(3 if places and case[2] else 0):
                    steps = [
                        (unknown, other[unknown], chance.randrange(len(case[2])))
                        for unknown in chance.sample(places, chance.randint(1, min(3, len(places))))
                    ]
                    values.append(("ring", tuple(steps)))
                sums = case_sums(case)
                values += [("sum", plain.added(chance.sample(sums, chance.randint(1, len(sums)))))] if sums else []
                for value in values:
                    wanted = plain.is_apart(case, one, other, value)
                    self.judge(case, one, other, value, wanted)
                    self.assertFalse(wanted and other in home)
                    right.append((value[0], wanted))
        for sort in ("island", "ring", "sum"):
            self.assertGreater(right.count((sort, True)), 10)
            self.assertGreater(right.count((sort, False)), 10)


if __name__ == "__main__":
    unittest.main()
