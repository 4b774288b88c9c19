"""[H1]: walks."""

import copy
import unittest

import plain
from plain import EXAMPLES, HIGH_ONLY, LOW_ONLY, NO_WAY, ODD_VALUES
from sixkeepers.errors import TooHard
from sixkeepers.keepers import kept_by
from sixkeepers.solving import answer_with
from sixkeepers.walks import hops, is_walk, walk, walk_to

X, O, I, T = [EXAMPLES[name] for name in "XOIT"]
C = ((X,), 3, ((0, (0, 1)), (0, (1, 2))))
KINDS = [("both",), ("either",), ("most",), ("odd",), ("most", "odd"), ("both", "either", "most"), ("both", "most")]
STRAIGHT = [("most",), ("odd",), ("most", "odd"), ("both", "most"), ("either", "most")]


def some_stock(chance):
    if chance.random() < 0.4:
        return plain.sparse_stock(chance, chance.choice(KINDS))
    if chance.random() < 0.6:
        return plain.kept_stock(chance, chance.choice(KINDS))
    return chance.choice((LOW_ONLY, HIGH_ONLY, NO_WAY, plain.some_stock(chance, (1, 2, 3, 4, 5))))


def wide(many):
    """Relations of which most of the answers are together."""
    rows = plain.all_rows(many)
    return (many, tuple(row for row in rows if sum(row) not in (2,))[:12])


class Walks(unittest.TestCase):
    def assertTooHard(self, unknowns, function):
        with self.assertRaises(TooHard) as caught:
            function()
        self.assertEqual(vars(caught.exception), {"size": unknowns})

    def check_walk(self, case, told, one, length):
        """The length is the number of changes, None if there is no walk."""
        if length is None:
            self.assertIsNone(told)
            return
        self.assertTrue(plain.is_walk(case, told))
        self.assertIs(is_walk(case, told), True)
        self.assertEqual(len(told), length + 1, (case, told))
        self.assertEqual(told[0], one)

    def check(self, case, chance):
        before = copy.deepcopy(case)
        found = plain.answers(case)
        for one in chance.sample(found, min(4, len(found))):
            self.assertTrue(plain.same(hops(case, one), self.plain_hops(case, one)))
            far = plain.steps_from(set(found), one)
            for other in [one] + chance.sample(found, min(6, len(found))):
                told = walk(case, one, other)
                self.check_walk(case, told, one, far.get(other))
                self.assertTrue(told is None or told[-1] == other)
                self.assertTrue(plain.same(walk(case, one, other), told))
            for unknown in range(case[1]):
                told = walk_to(case, one, unknown)
                ends = [far[row] for row in far if row[unknown] != one[unknown]]
                self.check_walk(case, told, one, min(ends, default=None))
                self.assertTrue(told is None or told[-1][unknown] != one[unknown])
        self.assertTrue(plain.same(case, before))
        return len(found), len(plain.islands(case))

    def plain_hops(self, case, row):
        return tuple(k for k in range(case[1]) if plain.holds(case[0], case[2], plain.changed(row, k)))

    def test_examples(self):
        A = ((O,), 3, ((0, (0, 1)), (0, (1, 2))))
        told = [
            hops(A, (0, 1, 0)), hops(A, (1, 1, 1)), hops(C, (0, 1, 0)), is_walk(A, ((0, 1, 0), (1, 1, 0))),
            is_walk(A, ((0, 1, 0), (1, 1, 1))), is_walk(A, ((0, 1, 0),)), is_walk(A, ()),
        ]
        self.assertEqual(told, [(0, 2), (0, 1, 2), (), True, False, True, False])
        told = [
            len(walk(A, (0, 1, 0), (1, 0, 1))), walk(A, (1, 1, 0), (1, 1, 0)), walk(C, (0, 1, 0), (1, 0, 1)),
            len(walk_to(A, (0, 1, 0), 1)), walk_to(A, (0, 1, 0), 2), walk_to(C, (0, 1, 0), 1),
        ]
        self.assertEqual(told, [4, ((1, 1, 0),), None, 4, ((0, 1, 0), (0, 1, 1)), None])
        M = ((O,), 40, tuple([(0, (k, k + 1)) for k in range(39)]))
        self.assertEqual(len(walk(M, (0, 1) * 20, (1, 0) * 20)), 41)
        self.assertTooHard(11, lambda: walk(((T,), 11, ()), (0,) * 11, (1,) * 11))

    def test_small(self):
        chance = plain.chance_of(171)
        seen = []
        for _ in range(500):
            many = chance.randint(1, 6)
            seen.append(self.check(plain.some_case(chance, some_stock(chance), many, chance.choice((1, 2, 2, 3))), chance))
        self.assertGreater(len([1 for many, islands in seen if islands > 1]), 60)
        self.assertGreater(len([1 for many, islands in seen if many > 4 and islands == 1]), 80)

    def test_each_kind(self):
        chance = plain.chance_of(172)
        for words in KINDS + [("low",), ("high",)]:
            seen = []
            while len(seen) < 120:
                many = chance.randint(2, 6)
                stock = chance.choice((plain.kept_stock, plain.sparse_stock))(chance, words)
                seen.append(self.check(plain.some_case(chance, stock, many, 3), chance))
            self.assertGreater(len([1 for many, islands in seen if islands > 1]), 5, words)

    def test_ways_about(self):
        # Here a shortest walk changes an unknown twice.
        ring = [(0, 0, 0), (0, 0, 1), (0, 1, 1), (1, 1, 1), (1, 1, 0)]
        bent = ((3, tuple(sorted(ring))), (1, ((0,), (1,))))
        case = (bent, 4, ((0, (0, 1, 2)),))
        self.assertEqual(len(walk(case, (0, 0, 0, 0), (1, 1, 0, 0))), 5)
        self.assertEqual(len(walk(case, (0, 0, 0, 1), (1, 1, 0, 0))), 6)
        self.assertEqual(len(walk_to(case, (0, 0, 0, 1), 0)), 4)
        chance = plain.chance_of(173)
        for many in (4, 4, 5):
            self.check(((wide(many), T), 7, ((0, tuple(range(many))), (0, tuple(range(7 - many, 7))))), chance)

    def test_ten_unknowns(self):
        chance = plain.chance_of(174)
        for stock in (LOW_ONLY, HIGH_ONLY, NO_WAY, (I,), (X, O), (plain.rows_of_sum(3, 1),), plain.TYPICAL["both"]):
            for many in (2, 4, 8):
                self.check((stock, 10, tuple(plain.some_fact(chance, stock, 10) for _ in range(many))), chance)

    def test_is_walk(self):
        chance = plain.chance_of(175)
        right = []
        for _ in range(300):
            case = plain.some_case(chance, some_stock(chance), chance.randint(1, 5), 2)
            found = plain.answers(case)
            if not found:
                continue
            one = chance.choice(found)
            told = [one]
            for _ in range(chance.randint(0, 6)):
                steps = self.plain_hops(case, told[-1])
                if steps:
                    told.append(plain.changed(told[-1], chance.choice(steps)))
            self.assertIs(is_walk(case, tuple(told)), True)
            self.assertIs(is_walk(case, told), False)
            self.assertIs(is_walk(case, tuple(told) + (told[-1],)), False)
            for _ in range(6):
                value = plain.replaced(tuple(told), chance)
                right.append(plain.is_walk(case, value))
                self.assertIs(is_walk(case, value), right[-1], value)
        self.assertGreater(right.count(True), 30)
        for value in ODD_VALUES:
            for unknowns in (1, 2):
                case = ((X,), unknowns, ())
                self.assertIs(is_walk(case, value), plain.is_walk(case, value), value)
                self.assertIs(is_walk(case, ((0,) * unknowns, value)), plain.is_walk(case, ((0,) * unknowns, value)))
        self.assertIs(is_walk(((X,), 1, ()), ((0,), (1,), (0,))), True)
        for value in (((0,), (True,)), ((False,), (1,)), ([0], (1,)), ((0,), (2,)), ((0,), (0,)), ((0, 0),), (0,)):
            self.assertIs(is_walk(((X,), 1, ()), value), False)
        great = (NO_WAY, 40, ((0, (0, 1, 2)),))
        row = (1,) + (0,) * 39
        self.assertIs(is_walk(great, (row, plain.changed(row, 39))), True)
        self.assertIs(is_walk(great, (row, plain.changed(row, 0))), False)
        self.assertEqual(hops(great, row), tuple(range(3, 40)))

    def some_great(self, chance, words):
        sizes = chance.choice(((6, 6, 6, 6, 6, 6, 4), (5,) * 8, (7, 7, 7, 7, 7, 1, 1, 1, 1, 1)))
        while True:
            stock = chance.choice((plain.kept_stock, plain.sparse_stock))(chance, words, (2, 2, 3, 3, 4))
            great = plain.Blocks(chance, stock, sizes, chance.choice((1, 2, 3, 4)))
            if great.has_answers():
                return great

    def some_answer(self, chance, great):
        row = [None] * 40
        for lot, rows in great.parts:
            for unknown, item in zip(lot, chance.choice(rows)):
                row[unknown] = item
        return tuple(row)

    def test_great_against_parts(self):
        chance = plain.chance_of(176)
        for words in STRAIGHT:
            none, lengths = 0, []
            for _ in range(12):
                great = self.some_great(chance, words)
                one = self.some_answer(chance, great)
                fars = [
                    (lot, plain.steps_from(set(rows), tuple(one[k] for k in lot))) for lot, rows in great.parts
                ]
                self.assertEqual(hops(great.case, one), self.plain_hops(great.case, one))
                for together in (True, True, False):
                    other = list(self.some_answer(chance, great))
                    for lot, far in fars if together else ():
                        for unknown, item in zip(lot, chance.choice(sorted(far))):
                            other[unknown] = item
                    other = tuple(other)
                    far = [far.get(tuple(other[k] for k in lot)) for lot, far in fars]
                    told = walk(great.case, one, other)
                    self.check_walk(great.case, told, one, None if None in far else sum(far))
                    if told is None:
                        none += 1
                    else:
                        self.assertEqual(told[-1], other)
                        self.assertEqual(len(told), 1 + sum(a != b for a, b in zip(one, other)))
                for unknown in range(40):
                    lot, far = next(pair for pair in fars if unknown in pair[0])
                    at = lot.index(unknown)
                    ends = [far[row] for row in far if row[at] != one[unknown]]
                    told = walk_to(great.case, one, unknown)
                    self.check_walk(great.case, told, one, min(ends, default=None))
                    lengths.append(len(told) if told is not None else None)
                    self.assertTrue(told is None or told[-1][unknown] != one[unknown])
            self.assertGreater(none, 3, words)
            self.assertIn(None, lengths)
            self.assertIn(2, lengths)
            if "odd" not in words:
                self.assertTrue(any(length is not None and length > 2 for length in lengths), words)

    def test_great(self):
        chance = plain.chance_of(177)
        for words in STRAIGHT:
            for many in (80, 40, 10, 3):
                stock = plain.kept_stock(chance, words, (2, 3, 4, 5))
                case = (stock, 40, tuple(plain.some_fact(chance, stock, 40) for _ in range(many)))
                one = answer_with(case, ())
                if one is None:
                    continue
                for unknown in range(40):
                    other = answer_with(case, ((unknown, 1 - one[unknown]),))
                    if other is None:
                        self.assertIsNone(walk_to(case, one, unknown))
                    else:
                        told = walk(case, one, other)
                        if told is not None:
                            self.check_walk(case, told, one, sum(a != b for a, b in zip(one, other)))
                            self.assertLessEqual(len(walk_to(case, one, unknown)), len(told))

    def test_long_walks(self):
        # Each one can be 1 only if the one ahead of it is: so they are changed one behind the other.
        up = ((I, X), 40, tuple((0, (k + 1, k)) for k in range(39)))
        self.assertIn("most", kept_by(up[0]))
        told = walk_to(up, (0,) * 40, 39)
        self.assertEqual(told, tuple((1,) * many + (0,) * (40 - many) for many in range(41)))
        self.assertEqual(walk(up, (1,) * 40, (0,) * 40), told[::-1])
        self.assertEqual(walk_to(up, (0,) * 40, 0), told[:2])
        ring = (up[0], 40, up[2] + ((0, (0, 39)),))
        self.assertIsNone(walk(ring, (1,) * 40, (0,) * 40))
        self.assertIsNone(walk_to(ring, (1,) * 40, 7))

    def test_too_hard(self):
        # Ahead of all else, also where it is plain that there is a walk, or none.
        every = ((2, ((0, 0), (0, 1), (1, 0), (1, 1))),)
        for unknowns in (11, 14, 15, 40):
            zeros, ones = (0,) * unknowns, (1,) * unknowns
            for stock in (NO_WAY, LOW_ONLY, HIGH_ONLY, plain.TYPICAL["both"], plain.TYPICAL["either"], NO_WAY + every):
                case = (stock, unknowns, ())
                self.assertTooHard(unknowns, lambda: walk(case, zeros, ones))
                self.assertTooHard(unknowns, lambda: walk(case, zeros, zeros))
                self.assertTooHard(unknowns, lambda: walk_to(case, zeros, 3))
                self.assertEqual(hops(case, zeros), tuple(range(unknowns)))
                self.assertIs(is_walk(case, (zeros,)), True)
            for stock in (every, plain.TYPICAL["most"], plain.TYPICAL["odd"]):
                self.assertEqual(len(walk((stock, unknowns, ()), zeros, ones)), unknowns + 1)
                self.assertEqual(len(walk_to((stock, unknowns, ()), zeros, 3)), 2)
        for stock in (NO_WAY, LOW_ONLY, plain.TYPICAL["both"]):
            self.assertEqual(len(walk((stock, 10, ()), (0,) * 10, (1,) * 10)), 11)
            self.assertEqual(len(walk_to((stock, 10, ()), (0,) * 10, 9)), 2)


if __name__ == "__main__":
    unittest.main()
