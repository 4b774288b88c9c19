"""[H2]: islands."""

import copy
import math
import unittest

import plain
from plain import EXAMPLES, FIRM, HIGH_ONLY, LOW_ONLY, NO_WAY
from sixkeepers.errors import TooHard
from sixkeepers.islands import high_end, island, island_count, islands, loose, low_end, together
from sixkeepers.keepers import kept_by
from sixkeepers.partings import apart
from sixkeepers.solving import answer_with
from sixkeepers.walks import hops

X, O, I, T = [EXAMPLES[name] for name in "XOIT"]
E = (2, ((0, 0), (1, 1)))
C = ((X,), 3, ((0, (0, 1)), (0, (1, 2))))
KINDS = [("both",), ("either",), ("most",), ("odd",), ("most", "odd"), ("both", "either"), ("low",), ("high",)]


def plain_low(rows):
    end = tuple(min(column) for column in zip(*rows))
    return end if end in rows else None


def plain_high(rows):
    end = tuple(max(column) for column in zip(*rows))
    return end if end in rows else None


def plain_loose(case):
    found = set(plain.answers(case))
    return tuple(k for k in range(case[1]) if all(plain.changed(row, k) in found for row in found))


class Islands(unittest.TestCase):
    def assertTooHard(self, unknowns, function):
        with self.assertRaises(TooHard) as caught:
            function()
        self.assertEqual(vars(caught.exception), {"size": unknowns})

    def check(self, case, chance):
        before = copy.deepcopy(case)
        right = plain.islands(case)
        self.assertTrue(plain.same(islands(case), right), case)
        self.assertTrue(plain.same(island_count(case), len(right)), case)
        self.assertTrue(plain.same(loose(case), plain_loose(case)), case)
        home = {row: rows for rows in right for row in rows}
        for one in chance.sample(sorted(home), min(5, len(home))):
            self.assertTrue(plain.same(island(case, one), home[one]))
            self.assertTrue(plain.same(low_end(case, one), plain_low(home[one])), (case, one))
            self.assertTrue(plain.same(high_end(case, one), plain_high(home[one])), (case, one))
            for other in [one] + chance.sample(sorted(home), min(5, len(home))):
                self.assertIs(together(case, one, other), home[one] is home[other], (case, one, other))
        self.assertTrue(plain.same(case, before))
        return right

    def test_examples(self):
        A = ((O,), 3, ((0, (0, 1)), (0, (1, 2))))
        I3 = ((I,), 3, ((0, (0, 1)), (0, (1, 2))))
        told = [
            together(A, (0, 1, 0), (1, 0, 1)), together(C, (0, 1, 0), (1, 0, 1)), islands(C), island_count(A),
            island(A, (1, 1, 1)) == islands(A)[0],
        ]
        self.assertEqual(told, [True, False, (((0, 1, 0),), ((1, 0, 1),)), 1, True])
        told = [
            low_end(I3, (0, 1, 1)), high_end(I3, (0, 1, 1)), low_end(A, (0, 1, 1)), high_end(A, (0, 1, 1)), loose(A),
            loose(((X,), 3, ((0, (0, 1)),))),
        ]
        self.assertEqual(told, [(0, 0, 0), (1, 1, 1), None, (1, 1, 1), (), (2,)])
        self.assertEqual(island_count(((E,), 40, ((0, (0, 1)), (0, (1, 2)), (0, (5, 6))))), 4)
        self.assertEqual(loose(((E,), 12, ((0, (3, 3)), (0, (0, 11))))), (1, 2, 3, 4, 5, 6, 7, 8, 9, 10))

    def test_small(self):
        chance = plain.chance_of(181)
        for words in KINDS + [None, None]:
            seen = []
            for _ in range(120):
                if words is None:
                    stock = plain.some_stock(chance, (1, 2, 3, 4, 5))
                else:
                    stock = chance.choice((plain.kept_stock, plain.sparse_stock))(chance, words)
                many = chance.randint(1, 6)
                case = plain.some_case(chance, stock, many, chance.choice((1, 2, 2, 3, 5)))
                seen.append(self.check(case, chance))
            self.assertGreater(len([1 for found in seen if len(found) > 1]), 4, words)
            if words is not None and len(words) == 1 and words[0] in FIRM:
                self.assertIn((), seen)

    def test_other_stocks(self):
        chance = plain.chance_of(182)
        ends = []
        for _ in range(60):
            for stock in (LOW_ONLY, HIGH_ONLY, NO_WAY, (EXAMPLES["O"], (2, ((0, 0), (0, 1), (1, 0))), T)):
                case = plain.some_case(chance, stock, chance.randint(2, 6), 3)
                for rows in self.check(case, chance):
                    ends.append((plain_low(rows) is None, plain_high(rows) is None))
        self.assertEqual(set(ends), {(one, other) for one in (True, False) for other in (True, False)})

    def test_without_answers(self):
        for many in (1, 4, 10):
            for stock, facts in (((X,), ((0, (0, 0)),)), (NO_WAY, ((0, (0, 0, 0)),)), ((T, O), ((0, (0,) * 3),))):
                case = (stock, many, facts)
                told = [islands(case), island_count(case), loose(case)]
                self.assertTrue(plain.same(told, [(), 0, tuple(range(many))]))
        great = ((X,), 40, ((0, (7, 7)),))
        self.assertEqual([island_count(great), loose(great)], [0, tuple(range(40))])

    def test_without_facts(self):
        for many in (1, 5, 10):
            for stock in ((X,), NO_WAY, (O,)):
                case = (stock, many, ())
                self.assertEqual(islands(case), (tuple(plain.all_rows(many)),))
                self.assertEqual([island_count(case), loose(case)], [1, tuple(range(many))])
                self.assertEqual(low_end(case, (1,) * many), (0,) * many)
                self.assertEqual(high_end(case, (0,) * many), (1,) * many)

    def test_ten_unknowns(self):
        chance = plain.chance_of(183)
        for stock in (LOW_ONLY, HIGH_ONLY, NO_WAY, (I,), (X, O), (plain.rows_of_sum(3, 1),), plain.TYPICAL["both"]):
            for many in (2, 4, 8):
                self.check((stock, 10, tuple(plain.some_fact(chance, stock, 10) for _ in range(many))), chance)

    def some_great(self, chance, words, loosened):
        sizes = (6, 6, 5, 5, 6, 6, 6) if not loosened else (3, 2, 1, 2) + (1,) * 32
        while True:
            stock = chance.choice((plain.kept_stock, plain.sparse_stock))(chance, words, (2, 2, 3, 3, 4))
            great = plain.Blocks(chance, stock, sizes, chance.choice((1, 2, 3)))
            if great.has_answers():
                return great

    def spread(self, parts, function):
        """What the function tells of each of the parts, put together to a row."""
        row = [None] * 40
        for lot, rows in parts:
            for unknown, item in zip(lot, function(rows)):
                row[unknown] = item
        return tuple(row)

    def homes(self, great, row):
        """For each part the rows that are together with what the row has there."""
        return [
            (lot, tuple(sorted(plain.steps_from(set(rows), tuple(row[k] for k in lot))))) for lot, rows in great.parts
        ]

    def test_great_together(self):
        chance = plain.chance_of(184)
        for words in [(word,) for word in FIRM] + [("both", "either"), ("most", "odd")]:
            told = []
            while len(told) < 60 or told.count(False) < 6:
                great = self.some_great(chance, words, chance.random() < 0.3)
                one = self.spread(great.parts, chance.choice)
                homes = self.homes(great, one)
                others = [self.spread(homes, chance.choice), self.spread(great.parts, chance.choice), one]
                for other in others:
                    right = all(tuple(other[k] for k in lot) in rows for lot, rows in homes)
                    self.assertIs(together(great.case, one, other), right)
                    told.append(right)

    def test_great_ends(self):
        chance = plain.chance_of(185)
        for word, function, plainly in (("both", low_end, plain_low), ("either", high_end, plain_high)):
            for _ in range(60):
                great = self.some_great(chance, (word,), chance.random() < 0.3)
                row = self.spread(great.parts, chance.choice)
                right = self.spread(self.homes(great, row), plainly)
                self.assertEqual(function(great.case, row), right)
                # In whatever order one goes on, one ends there.
                item = 1 if word == "both" else 0
                while True:
                    fit = [unknown for unknown in hops(great.case, row) if row[unknown] == item]
                    if not fit:
                        break
                    row = plain.changed(row, chance.choice(fit))
                self.assertEqual(row, right)

    def test_together_by_a_way_about(self):
        # From one to the other the first unknown must be changed, and changed back.
        rows = ("00000", "00010", "00011", "01000", "01100", "10000", "10011", "11100")
        bent = tuple(tuple(int(sign) for sign in row) for row in rows)
        for item, word in ((0, "both"), (1, "either")):
            turned = tuple(sorted(tuple(item ^ one for one in row) for row in bent))
            stock = ((5, turned), plain.TYPICAL[word][1])
            self.assertEqual(set(kept_by(stock)) & set(FIRM), {word})
            ends = [tuple(item ^ one for one in row) for row in (bent[-1], bent[-2])]
            for many in (1, 2, 8):
                case = (stock, 5 * many, tuple((0, tuple(range(5 * k, 5 * k + 5))) for k in range(many)))
                for one, other in ((ends[0], ends[1]), (ends[1], ends[0])):
                    self.assertIs(together(case, one * many, other * many), True)
                    self.assertIs(together(case, one * many, one * (many - 1) + other), True)
                    self.assertIsNone(apart(case, one * many, other * many))
            self.assertEqual(low_end(((stock[0],), 5, ((0, (0, 1, 2, 3, 4)),)), ends[0]), plain_low(turned))
            # Without what leads about they are not together.
            torn = tuple(row for row in turned if sum(row) != (3 if item else 2) or row[0] != item)
            case = (((5, torn),), 5, ((0, (0, 1, 2, 3, 4)),))
            self.assertIs(together(case, ends[0], ends[1]), False)
            self.assertIsNotNone(apart(case, ends[0], ends[1]))

    def test_great_sums(self):
        chance = plain.chance_of(186)
        for loosened in (False, True):
            for _ in range(40):
                great = self.some_great(chance, ("odd",), loosened)
                counts = []
                free = []
                for lot, _ in great.parts:
                    small = (great.case[0], len(lot), great.within(lot))
                    counts.append(len(plain.islands(small)))
                    free += [lot[k] for k in plain_loose(small)]
                self.assertTrue(plain.same(island_count(great.case), math.prod(counts)))
                self.assertTrue(plain.same(loose(great.case), tuple(sorted(free))))
        for many in (31, 35, 39):
            case = ((E, X), 40, tuple((k % 2, (k, k + 1)) for k in range(39 - many)))
            self.assertEqual(loose(case)[-(many - 1):], tuple(range(41 - many, 40)))
            self.assertEqual(island_count(case), 1 if many == 39 else 2)
        case = ((plain.rows_of_sum(3, 0),), 40, tuple((0, (k, k + 1, k + 2)) for k in range(0, 36, 2)))
        self.assertEqual([island_count(case), loose(case)], [2 ** 19, (37, 38, 39)])

    def test_great(self):
        chance = plain.chance_of(187)
        for word in FIRM:
            for many in (80, 40, 10, 3):
                stock = plain.kept_stock(chance, (word,), (2, 3, 4, 5))
                case = (stock, 40, tuple(plain.some_fact(chance, stock, 40) for _ in range(many)))
                one = answer_with(case, ())
                for unknown in range(40 if one is not None else 0):
                    self.assertIs(together(case, one, one), True)
                    other = answer_with(case, ((unknown, 1 - one[unknown]),))
                    if other is not None:
                        self.assertIs(together(case, one, other), together(case, other, one))
                        if sum(a != b for a, b in zip(one, other)) == 1:
                            self.assertIs(together(case, one, other), True)
                if one is not None and word == "both":
                    self.assertIs(together(case, one, low_end(case, one)), True)

    def test_too_hard(self):
        every = ((2, ((0, 0), (0, 1), (1, 0), (1, 1))),)
        stocks = [plain.TYPICAL[word] for word in FIRM] + [LOW_ONLY, HIGH_ONLY, NO_WAY, NO_WAY + every, every]
        for unknowns in (11, 14, 15, 40):
            zeros = (0,) * unknowns
            for stock in stocks:
                names = kept_by(stock)
                case = (stock, unknowns, ())
                for words, function, wanted in (
                    (FIRM, lambda: together(case, zeros, zeros), True),
                    (("both",), lambda: low_end(case, zeros), zeros),
                    (("either",), lambda: high_end(case, zeros), (1,) * unknowns),
                    ((), lambda: island(case, zeros), None), ((), lambda: islands(case), None),
                    (("odd",), lambda: island_count(case), 1), (("odd",), lambda: loose(case), tuple(range(unknowns))),
                ):
                    if set(words) & set(names):
                        self.assertTrue(plain.same(function(), wanted))
                    else:
                        self.assertTooHard(unknowns, function)
        for stock in stocks:
            case = (stock, 10, ())
            self.assertIs(together(case, (0,) * 10, (1,) * 10), True)
            self.assertEqual([len(islands(case)[0]), island_count(case), loose(case)], [1024, 1, tuple(range(10))])


if __name__ == "__main__":
    unittest.main()
