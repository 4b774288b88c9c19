"""[E1] to [E4]: what follows, what is needless, pieces and seams."""

import copy
import unittest

import plain
from plain import EXAMPLES, FIRM, HIGH_ONLY, LOW_ONLY, NO_WAY
from sixkeepers.errors import NoAnswers, TooHard, Unfit
from sixkeepers.follows import against, alike, between, follows, forced, needless, pieces, seen_rows, trimmed
from sixkeepers.solving import refutes

X, T = EXAMPLES["X"], EXAMPLES["T"]
K = (EXAMPLES["I"], EXAMPLES["O"], (2, ((0, 0), (0, 1), (1, 0))), (1, ((1,),)))
A = (K, 4, ((3, (0,)), (0, (0, 1)), (0, (1, 2))))
B = (K, 4, A[2] + ((0, (0, 2)),))
C = (K, 3, ((3, (0,)), (0, (0, 1)), (2, (0, 1))))
KINDS = [("both",), ("either",), ("most",), ("odd",), ("most", "odd"), ("both", "either", "most"), ("low",), ("high",)]


def some_stocks(chance):
    for words in KINDS:
        yield plain.kept_stock(chance, words)
    yield plain.some_stock(chance, (1, 2, 3, 4, 5))


def plain_forced(unknowns, rows_at):
    """rows_at tells what rows answers have at places; there are answers."""
    return tuple((k, min(rows_at((k,)))[0]) for k in range(unknowns) if len(rows_at((k,))) == 1)


def plain_alike(unknowns, rows_at):
    found = {}
    for k in range(unknowns):
        for first in list(found):
            turns = {a ^ b for a, b in rows_at((first, k))}
            if len(turns) == 1:
                found[first].append((k, min(turns)))
                break
        else:
            found[k] = [(k, 0)]
    return tuple(tuple(pairs) for pairs in found.values() if len(pairs) > 1)


class Here(unittest.TestCase):
    def assertRefuted(self, case, function):
        with self.assertRaises(NoAnswers) as caught:
            function()
        self.assertEqual(list(vars(caught.exception)), ["reason"])
        self.assertIs(refutes(case, caught.exception.reason), True)

    def assertTooHard(self, unknowns, function):
        with self.assertRaises(TooHard) as caught:
            function()
        self.assertEqual(vars(caught.exception), {"size": unknowns})


class Following(Here):
    def check(self, case, has_answers, rows_at, chance):
        """Holds the case against what rows its answers have at places."""
        before = copy.deepcopy(case)
        if has_answers:
            self.assertTrue(plain.same(forced(case), plain_forced(case[1], rows_at)), case)
            self.assertTrue(plain.same(alike(case), plain_alike(case[1], rows_at)), case)
        else:
            self.assertRefuted(case, lambda: forced(case))
            self.assertRefuted(case, lambda: alike(case))
        for many in (1, 2, 3, 4):
            places = tuple(chance.randrange(case[1]) for _ in range(many))
            good = tuple(sorted(rows_at(places)))
            self.assertTrue(plain.same(seen_rows(case, places), good))
            for relation in ((many, ()), (many, good), (many, good[1:]), plain.some_relation(chance, many)):
                self.check_follows(case, rows_at, relation, places)
        places = tuple(chance.randrange(case[1]) for _ in range(5))
        self.check_follows(case, rows_at, plain.some_relation(chance, 5), places)
        self.assertTrue(plain.same(case, before))

    def check_follows(self, case, rows_at, relation, places):
        right = rows_at(places) <= set(relation[1])
        self.assertIs(follows(case, relation, places), right, (case, relation, places))
        row = against(case, relation, places)
        self.assertEqual(row is None, right)
        if row is not None:
            self.assertTrue(plain.holds(case[0], case[2], row) and len(row) == case[1])
            self.assertTrue(all(type(item) is int for item in row))
            self.assertNotIn(tuple(row[k] for k in places), relation[1])
        self.assertEqual(against(case, relation, places), row)

    def test_examples(self):
        told = [
            forced(A), alike(A), seen_rows(A, (2, 3)), follows(A, (2, ((0, 1), (1, 1))), (3, 2)),
            against(A, (1, ((0,),)), (3,)),
        ]
        self.assertEqual(told[:4], [((0, 1), (1, 1), (2, 1)), (((0, 0), (1, 0), (2, 0)),), ((1, 0), (1, 1)), True])
        self.assertEqual(told[4], (1, 1, 1, 1))

    def test_small(self):
        chance = plain.chance_of(111)
        both = []
        for _ in range(45):
            for stock in some_stocks(chance):
                case = plain.some_case(chance, stock, chance.randint(1, 7), chance.choice((2, 5, 9)))
                good = plain.answers(case)
                both.append(bool(good))
                self.check(case, bool(good), lambda places: plain.seen(good, places), chance)
        self.assertTrue(min(both.count(True), both.count(False)) > 40)

    def test_fourteen_unknowns(self):
        chance = plain.chance_of(112)
        for stock in (NO_WAY + K[:1], LOW_ONLY, HIGH_ONLY, NO_WAY + plain.some_stock(chance)) * 3:
            case = plain.some_case(chance, stock, 14, 14)
            good = plain.answers(case)
            self.check(case, bool(good), lambda places: plain.seen(good, places), chance)

    def test_forty_unknowns(self):
        chance = plain.chance_of(113)
        for word in FIRM:
            both = []
            while len(both) < 12 or not any(both):
                stock = plain.kept_stock(chance, (word,), (1, 2, 2, 3, 3, 4))
                great = plain.Blocks(chance, stock, (7, 8, 3, 1, 6, 5, 7, 3), chance.choice((2, 4)))
                both.append(great.has_answers())
                self.check(great.case, both[-1], great.seen, chance)

    def test_eighty_facts(self):
        chance = plain.chance_of(114)
        for word in FIRM:
            for _ in range(4):
                stock = plain.kept_stock(chance, (word,), (2, 3, 4, 5))
                case = (stock, 40, tuple(plain.some_fact(chance, stock, 40) for _ in range(80)))
                relation = plain.some_relation(chance, 4)
                rows = seen_rows(case, (3, 3, 9, 30))
                self.assertIs(follows(case, (4, rows), (3, 3, 9, 30)), True)
                self.assertIs(follows(case, relation, (3, 3, 9, 30)), set(rows) <= set(relation[1]))

    def test_chains_at_forty(self):
        links = tuple((0, (k, k + 1)) for k in range(39))
        case = (K + (X,), 40, links)
        self.assertEqual(forced(case), ())
        self.assertEqual(alike(case), ())
        self.assertEqual(forced((case[0], 40, links + ((3, (0,)),))), tuple((k, 1) for k in range(40)))
        circle = (case[0], 40, links + ((0, (39, 0)),))
        self.assertEqual(alike(circle), (tuple((k, 0) for k in range(40)),))
        unlike = (case[0], 40, tuple((4, (k, k + 1)) for k in range(39)))
        self.assertEqual(alike(unlike), (tuple((k, k % 2) for k in range(40)),))
        self.assertEqual(alike((case[0], 40, circle[2] + ((3, (7,)),))), (tuple((k, 0) for k in range(40)),))

    def test_without_answers(self):
        case = (K, 4, A[2] + ((2, (0, 2)),))
        self.assertEqual(seen_rows(case, (0, 0)), ())
        self.assertIs(follows(case, (1, ()), (3,)), True)
        self.assertIsNone(against(case, (1, ()), (3,)))
        self.assertRefuted(case, lambda: forced(case))
        self.assertRefuted(case, lambda: alike(case))

    def test_without_answers_though_nothing_clashes(self):
        chance = plain.chance_of(110)
        both = []
        for word, many in (("most", 14), ("odd", 9), ("both", 16), ("either", 16)) * 12:
            stock = plain.TYPICAL[word]
            case = (stock, 7, tuple((k, tuple(chance.sample(range(7), stock[k][0])))
                for k in (chance.randrange(4) for _ in range(many))))
            good = plain.answers(case)
            both.append(bool(good))
            self.check(case, bool(good), lambda places: plain.seen(good, places), chance)
        self.assertTrue(min(both.count(True), both.count(False)) > 8, both.count(True))
        four = ((0, (3, 9)), (1, (3, 9)), (2, (3, 9)), (3, (3, 9)))
        case = (plain.TYPICAL["most"], 40, four)
        self.assertEqual([seen_rows(case, (0,)), follows(case, (1, ()), (5,)), against(case, (1, ()), (5,))],
            [(), True, None])
        self.assertEqual([needless(case), trimmed(case), between(case, (0, 1, 2, 3))], [(), (0, 1, 2, 3), ((), ())])
        self.assertRefuted(case, lambda: forced(case))
        self.assertEqual(forced((case[0], 40, four[:3])), ((3, 1), (9, 0)))

    def test_without_rows(self):
        self.assertIs(follows(A, (1, ()), (3,)), False)
        self.assertTrue(plain.holds(K, A[2], against(A, (2, ()), (3, 3))))
        self.assertIs(follows(A, (2, ((0, 0), (1, 1))), (3, 3)), True)
        self.assertIs(follows(A, (2, ((0, 0), (0, 1))), (3, 3)), False)

    def test_too_hard(self):
        clash = ((0, (0, 0)),)
        for unknowns in (15, 40):
            for stock in (NO_WAY, LOW_ONLY, HIGH_ONLY, (X, T)):
                for facts in ((), clash if stock[0] == X else ()):
                    case = (stock, unknowns, facts)
                    for function in (
                        lambda: forced(case), lambda: alike(case), lambda: seen_rows(case, (0,)),
                        lambda: follows(case, (1, ()), (0,)),
                        lambda: against(case, (1, ()), (0,)), lambda: needless(case), lambda: trimmed(case),
                    ):
                        self.assertTooHard(unknowns, function)


class Needless(Here):
    def plain_needless(self, case, lot, number):
        rest = [other for other in lot if other != number]
        index, places = case[2][number]
        return plain.seen(plain.answers(plain.lot_case(case, rest)), places) <= set(case[0][index][1])

    def check(self, case):
        every = tuple(range(len(case[2])))
        self.assertTrue(plain.same(needless(case), tuple(k for k in every if self.plain_needless(case, every, k))),
            case)
        lot = list(every)
        for number in every[::-1]:
            if self.plain_needless(case, lot, number):
                lot.remove(number)
        self.assertTrue(plain.same(trimmed(case), tuple(lot)), case)
        return len(every) - len(lot)

    def test_examples(self):
        self.assertEqual([needless(A), needless(B), trimmed(B)], [(), (2, 3), (0, 1, 2)])

    def test_small(self):
        chance = plain.chance_of(115)
        left = 0
        for _ in range(40):
            for stock in some_stocks(chance):
                case = plain.some_case(chance, stock, chance.randint(1, 5), chance.choice((3, 7)))
                if chance.random() < 0.3:
                    case = case[:2] + (case[2] + case[2][:1],)
                left += self.check(case) > 0
        self.assertGreater(left, 100)

    def test_facts_that_stand_twice(self):
        case = (K, 4, A[2] + A[2])
        self.assertEqual(needless(case), (0, 1, 2, 3, 4, 5))
        self.assertEqual(trimmed(case), (0, 1, 2))
        full = (((1, ((0,), (1,))),), 2, ((0, (0,)), (0, (1,))))
        self.assertEqual([needless(full), trimmed(full), needless((K, 40, ())), trimmed((K, 40, ()))],
            [(0, 1), (), (), ()])

    def test_without_answers(self):
        case = (K, 4, A[2] + ((2, (0, 2)), (1, (3, 3))))
        self.assertEqual([needless(case), trimmed(case)], [(4,), (0, 1, 2, 3)])
        self.check(case)
        case = (K, 4, case[2] + ((2, (0, 0)),))
        self.assertEqual([needless(case), trimmed(case)], [(1, 2, 3, 4, 5), (0, 1, 2, 3)])
        self.check(case)

    def test_great(self):
        chance = plain.chance_of(116)
        for word in FIRM:
            done = 0
            while done < 3:
                stock = plain.kept_stock(chance, (word,), (2, 2, 3, 3, 4))
                great = plain.Blocks(chance, stock, (6, 5, 6, 7, 5, 6, 5), 8)
                case = great.case
                if not great.has_answers() or len(case[2]) > 80:
                    continue
                done += 1
                spare, left = [], []
                for lot, _ in great.parts:
                    numbers = great.numbers(lot)
                    small = (stock, len(lot), great.within(lot))
                    spare += [numbers[k] for k in needless(small)]
                    left += [numbers[k] for k in trimmed(small)]
                    self.check(small)
                self.assertEqual(needless(case), tuple(sorted(spare)))
                self.assertEqual(trimmed(case), tuple(sorted(left)))
                less = plain.lot_case(case, trimmed(case))
                self.assertEqual(needless(less), ())


def plain_pieces(case):
    found = []
    rest = set(range(case[1]))
    while rest:
        piece = {min(rest)}
        while True:
            more = {k for _, places in case[2] if piece & set(places) for k in places}
            if more <= piece:
                break
            piece |= more
        rest -= piece
        found.append((tuple(sorted(piece)), tuple(k for k, fact in enumerate(case[2]) if piece & set(fact[1]))))
    return tuple(found)


class Pieces(Here):
    def test_examples(self):
        self.assertEqual(pieces(A), (((0, 1, 2), (0, 1, 2)), ((3,), ())))
        self.assertEqual([between(C, (0, 1)), between(C, (2,))],
            [((0, 1), ((1, 1),)), ((0, 1), ((0, 0), (0, 1), (1, 0)))])

    def test_pieces(self):
        chance = plain.chance_of(117)
        for _ in range(250):
            stock = plain.some_stock(chance, (1, 2, 3, 4, 5))
            case = plain.some_case(chance, stock, chance.randint(1, 40), chance.choice((3, 10, 30)))
            before = copy.deepcopy(case)
            self.assertTrue(plain.same(pieces(case), plain_pieces(case)), case)
            self.assertTrue(plain.same(case, before))

    def test_pieces_raise_nothing(self):
        self.assertEqual(pieces((NO_WAY, 40, ())), tuple(((k,), ()) for k in range(40)))
        self.assertEqual(pieces((NO_WAY, 15, ((0, (3, 3, 3)),)))[3], ((3,), (0,)))
        self.assertEqual(pieces(((X,), 2, ((0, (1, 1)),))), (((0,), ()), ((1,), (0,))))
        links = tuple((0, (k, k + 1)) for k in range(38, -1, -1))
        self.assertEqual(pieces((K, 40, links)), ((tuple(range(40)), tuple(range(39))),))

    def check_between(self, case, lot):
        inside = {k for number in lot for k in case[2][number][1]}
        outside = {k for number, fact in enumerate(case[2]) if number not in lot for k in fact[1]}
        seam = tuple(sorted(inside & outside))
        if len(seam) > 4:
            with self.assertRaises(Unfit):
                between(case, lot)
            return None
        told = between(case, lot)
        rows = plain.seen(plain.answers(plain.lot_case(case, lot)), seam)
        self.assertTrue(plain.same(told, (seam, tuple(sorted(rows)))), (case, lot))
        return told

    def test_between(self):
        chance = plain.chance_of(118)
        unfit = 0
        for _ in range(40):
            for stock in some_stocks(chance):
                case = plain.some_case(chance, stock, chance.randint(1, 8), 6)
                lot = tuple(k for k in range(len(case[2])) if chance.random() < 0.5)
                rest = tuple(k for k in range(len(case[2])) if k not in lot)
                told, other = self.check_between(case, lot), self.check_between(case, rest)
                if told is None:
                    unfit += 1
                else:
                    self.assertEqual(bool(set(told[1]) & set(other[1])), bool(plain.answers(case)))
        self.assertGreater(unfit, 3)

    def test_empty_seams(self):
        self.assertEqual(between(A, ()), ((), ((),)))
        self.assertEqual(between(A, (0, 1, 2)), ((), ((),)))
        self.assertEqual(between(C, (0, 1, 2)), ((), ()))
        self.assertEqual(between((K, 40, ()), ()), ((), ((),)))
        two = (K, 40, ((2, (5, 5)), (3, (5,)), (3, (7,))))
        self.assertEqual([between(two, (0, 1)), between(two, (2,))], [((), ()), ((), ((),))])

    def test_seams_of_four_and_five(self):
        five = (5, ((0, 0, 0, 0, 1), (1, 1, 1, 1, 0)))
        four = (4, ((0, 0, 0, 0), (1, 1, 1, 1)))
        case = ((five, four), 40, ((0, (0, 10, 20, 30, 39)), (1, (0, 10, 20, 30)), (1, (1, 2, 3, 4))))
        self.assertEqual(between(case, (0,)), ((0, 10, 20, 30), ((0, 0, 0, 0), (1, 1, 1, 1))))
        wide = (case[0], 40, case[2] + ((1, (39, 39, 5, 5)),))
        for lot in ((0,), (1, 2, 3)):
            with self.assertRaises(Unfit) as caught:
                between(wide, lot)
            self.assertEqual(vars(caught.exception), {})
        self.assertEqual(between(wide, (0, 1))[0], (39,))

    def test_too_hard_ahead_of_unfit(self):
        five = (5, ((0, 0, 0, 0, 1), (1, 1, 1, 1, 0)))
        facts = ((0, (0, 1, 2, 3, 4)),) * 2
        for unknowns in (15, 40):
            for lot in ((0,), (), (0, 1)):
                self.assertTooHard(unknowns, lambda: between(((five,) + NO_WAY, unknowns, facts), lot))
                self.assertTooHard(unknowns, lambda: between((LOW_ONLY, unknowns, facts[:0]), ()))
        with self.assertRaises(Unfit):
            between(((five,) + NO_WAY, 14, facts), (0,))

    def test_great(self):
        chance = plain.chance_of(119)
        for word in FIRM:
            for _ in range(6):
                stock = plain.kept_stock(chance, (word,), (2, 3))
                great = plain.Blocks(chance, stock, (8, 8, 8, 8, 8), 8)
                lot = great.numbers(great.parts[0][0])[:3] + great.numbers(great.parts[1][0])
                lot = tuple(sorted(lot))
                small = [number for number in lot if great.case[2][number][1][0] in great.parts[0][0]]
                try:
                    seam, rows = between(great.case, lot)
                except Unfit:
                    continue
                unknowns = great.parts[0][0]
                part = (stock, 8, tuple(
                    (great.case[2][n][0], tuple(unknowns.index(k) for k in great.case[2][n][1])) for n in small
                ))
                good = plain.seen(plain.answers(part), [unknowns.index(k) for k in seam])
                self.assertEqual(set(rows), good if great.parts[1][1] else set())


if __name__ == "__main__":
    unittest.main()
