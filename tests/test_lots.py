"""[E5] and [E6]: cores, drops and reasons."""

import copy
import unittest

import plain
from plain import EXAMPLES, FIRM, HIGH_ONLY, LOW_ONLY, NO_WAY, ODD_VALUES
from sixkeepers.errors import NoAnswers, TooHard
from sixkeepers.follows import core, core_holds, cores, drop_holds, drops, fewest_drop, reason, reason_holds, reasons
from sixkeepers.solving import answer, refutes

X, T = EXAMPLES["X"], EXAMPLES["T"]
K = (EXAMPLES["I"], EXAMPLES["O"], (2, ((0, 0), (0, 1), (1, 0))), (1, ((1,),)))
A = (K, 4, ((3, (0,)), (0, (0, 1)), (0, (1, 2))))
B = (K, 4, A[2] + ((0, (0, 2)),))
C = (K, 3, ((3, (0,)), (0, (0, 1)), (2, (0, 1))))
KINDS = [("both",), ("either",), ("most",), ("odd",), ("most", "odd"), ("both", "either", "most"), ("low",), ("high",)]
WRONG_LOTS = ODD_VALUES + ([0], [0, 1], (1, 0), (0, 0), (False,), (0, True), (-1,), (80,), (0, 10 ** 60), ((0,),),
    "0", {0: 0}, (0, "1"), (0, None))


def some_stocks(chance):
    for words in KINDS:
        yield plain.kept_stock(chance, words, (1, 2, 2, 3, 3, 4))
    yield plain.some_stock(chance, (1, 2, 3, 4))
    yield (K[0], K[1], K[2], (1, ((0,),)), (1, ((1,),)), X)


def some_cases(chance, count, most):
    for _ in range(count):
        for stock in some_stocks(chance):
            case = plain.some_case(chance, stock, chance.randint(1, 5), most)
            if case[2] and chance.random() < 0.2:
                case = case[:2] + (case[2][1:] + case[2][-1:],)
            yield case


def lets_table(case, held):
    """For each lot, whether its case has an answer with the held values."""
    table = {}
    rows = [row for row in plain.all_rows(case[1]) if all(row[k] == value for k, value in held)]
    for lot in plain.all_subsets(range(len(case[2]))):
        table[lot] = any(plain.holds(case[0], [case[2][k] for k in lot], row) for row in rows)
    return table


def least(lots):
    """Those of the lots of which no other part is one of them."""
    return tuple(lot for lot in lots if not any(set(other) < set(lot) for other in lots))


def rest(case, lot):
    return tuple(k for k in range(len(case[2])) if k not in lot)


def plain_cores(case, held=()):
    table = lets_table(case, held)
    return least([lot for lot in sorted(table) if not table[lot]])


def plain_drops(case):
    table = lets_table(case, ())
    return least([lot for lot in sorted(table) if table[rest(case, lot)]])


class Here(unittest.TestCase):
    def assertTooHard(self, unknowns, function):
        with self.assertRaises(TooHard) as caught:
            function()
        self.assertEqual(vars(caught.exception), {"size": unknowns})

    def check_holds(self, holds, good, many, chance):
        """Holds what holds tells of lots of many facts against the good ones."""
        for lot in plain.all_subsets(range(many)) if many < 6 else [tuple(sorted(chance.sample(range(many), 4)))
            for _ in range(6)]:
            self.assertIs(holds(lot), lot in good, lot)
        for lot in good:
            self.assertIs(holds(lot), True)
            if lot:
                self.assertIs(holds(list(lot)), False)
                self.assertIs(holds(lot + lot[-1:]), False)
                self.assertIs(holds(lot[1:]), False)
                self.assertIs(holds((bool(lot[0]),) + lot[1:]), False)
            for _ in range(6):
                bent = plain.replaced(lot, chance)
                self.assertIs(holds(bent), any(plain.same(bent, other) for other in good), bent)


class Cores(Here):
    def test_examples(self):
        told = [
            core(C), core(A), cores(C), drops(C), fewest_drop(C), drops(A), core_holds(C, (0, 1)), drop_holds(C, (1,)),
            drop_holds(C, (1, 2)),
        ]
        good = [(0, 1, 2), None, ((0, 1, 2),), ((0,), (1,), (2,)), (0,), ((),), False, True, False]
        self.assertTrue(plain.same(told, good))

    def test_against_all_lots(self):
        chance = plain.chance_of(121)
        several = 0
        for case in some_cases(chance, 30, 7):
            before = copy.deepcopy(case)
            good, out = plain_cores(case), plain_drops(case)
            several += len(good) > 1
            self.assertTrue(plain.same(cores(case), good), case)
            self.assertTrue(plain.same(drops(case), out), case)
            self.assertTrue(plain.same(fewest_drop(case), min(out, key=lambda lot: (len(lot), lot))))
            told = core(case)
            self.assertTrue(told in good if good else told is None)
            self.assertEqual(core(case), told)
            self.check_holds(lambda value: core_holds(case, value), good, len(case[2]), chance)
            self.check_holds(lambda value: drop_holds(case, value), out, len(case[2]), chance)
            for lot in good:
                self.assertTrue(all(set(lot) & set(other) for other in out))
            self.assertTrue(plain.same(case, before))
        self.assertGreater(several, 40)

    def test_ten_facts(self):
        chance = plain.chance_of(122)
        stock = (X, K[0], K[1], K[2])
        for _ in range(6):
            case = (stock, 4, tuple(plain.some_fact(chance, stock, 4) for _ in range(10)))
            self.assertEqual(cores(case), plain_cores(case))
            self.assertEqual(drops(case), plain_drops(case))

    def test_cases_with_answers(self):
        for case in (A, B, (K, 40, ()), (LOW_ONLY, 40, ()), (NO_WAY, 14, ((0, (0, 1, 2)),)),
            (LOW_ONLY, 40, ((0, (0, 0, 1)), (1, (3, 3)))), (
            HIGH_ONLY, 40, ((0, (0, 1, 1)),) * 10
        )):
            self.assertEqual([core(case), cores(case), drops(case), fewest_drop(case)], [None, (), ((),), ()])
            self.assertEqual([core_holds(case, ()), core_holds(case, (0,)), drop_holds(case, ()),
                drop_holds(case, (0,))], [False, False, True, False])

    def test_values_that_are_no_lots(self):
        case = (K, 3, ((2, (0, 0)), (3, (0,)), (3, (0,))))
        self.assertEqual([cores(case), drops(case)], [((0, 1), (0, 2)), ((0,), (1, 2))])
        for value in WRONG_LOTS:
            if not isinstance(value, tuple) or value != ():
                self.assertIs(core_holds(case, value), plain.same(value, (0, 1)), value)
                self.assertIs(drop_holds(case, value), plain.same(value, (0,)), value)
        self.assertIs(core_holds(case, [0, 1]), False)
        self.assertIs(drop_holds(case, (False,)), False)
        self.assertIs(drop_holds(case, ()), False)
        self.assertIs(core_holds(case, ()), False)

    def test_too_hard(self):
        for unknowns in (15, 40):
            for stock in (NO_WAY, (X, T)):
                case = (stock, unknowns, ((0, (0, 0, 0)[:stock[0][0]]),))
                for function in (core, cores, drops, fewest_drop):
                    self.assertTooHard(unknowns, lambda: function(case))
                for value in ((), (0,), None, [0], "x"):
                    self.assertTooHard(unknowns, lambda: core_holds(case, value))
                    self.assertTooHard(unknowns, lambda: drop_holds(case, value))
        case = (NO_WAY, 14, ((0, (0, 0, 0)), (0, (1, 2, 3))))
        self.assertEqual([core(case), cores(case), drops(case), fewest_drop(case)], [(0,), ((0,),), ((0,),), (0,)])

    def test_great(self):
        chance = plain.chance_of(123)
        for word in FIRM:
            seen = 0
            for _ in range(6):
                stock = plain.kept_stock(chance, (word,), (2, 3, 3, 4))
                case = (stock, 40, tuple(plain.some_fact(chance, stock, 40) for _ in range(80)))
                told = core(case)
                if told is None:
                    self.assertIsNotNone(answer(case))
                    self.assertIs(drop_holds(case, ()), True)
                    continue
                seen += 1
                self.assertIsNone(answer(plain.lot_case(case, told)))
                for number in told:
                    self.assertIsNotNone(answer(plain.lot_case(case, [k for k in told if k != number])))
                self.assertIs(core_holds(case, told), True)
                self.assertIs(core_holds(case, told[1:]), False)
                more = tuple(sorted(told + rest(case, told)[:1]))
                self.assertIs(core_holds(case, more), len(more) == len(told))
                out = list(range(80))
                for number in range(80):
                    if answer(plain.lot_case(case, [k for k in range(80) if k not in out or k == number])) is not None:
                        out.remove(number)
                self.assertIs(drop_holds(case, tuple(out)), True)
                self.assertIs(drop_holds(case, tuple(out[1:])), False)
                self.assertTrue(set(out) & set(told))
            self.assertGreater(seen, 1, word)

    def test_ten_facts_at_forty(self):
        chance = plain.chance_of(124)
        for words in KINDS:
            stock = plain.kept_stock(chance, words, (2, 3, 3, 4))
            small = (stock, 5, tuple(plain.some_fact(chance, stock, 5) for _ in range(9)))
            spots = chance.sample(range(40), 5)
            case = (stock, 40, tuple((index, tuple(spots[k] for k in places)) for index, places in small[2]))
            self.assertEqual(cores(case), plain_cores(small))
            self.assertEqual(drops(case), plain_drops(small))


class Reasons(Here):
    def test_examples(self):
        told = [reason(A, 2), reason(A, 3), reasons(B, 2), reasons(B, 0), reason_holds(B, 2, (0, 3)),
            reason_holds(B, 2, (0, 1, 2, 3))]
        self.assertTrue(plain.same(told, [(0, 1, 2), None, ((0, 1, 2), (0, 3)), ((0,),), True, False]))

    def test_against_all_lots(self):
        chance = plain.chance_of(125)
        several = 0
        for case in some_cases(chance, 25, 6):
            before = copy.deepcopy(case)
            found = plain.answers(case)
            for unknown in range(case[1]):
                if not found:
                    for function in (lambda: reason(case, unknown), lambda: reasons(case, unknown),
                        lambda: reason_holds(case, unknown, None)):
                        with self.assertRaises(NoAnswers) as caught:
                            function()
                        self.assertIs(refutes(case, caught.exception.reason), True)
                    continue
                values = {row[unknown] for row in found}
                good = plain_cores(case, ((unknown, 1 - min(values)),)) if len(values) == 1 else ()
                several += len(good) > 1
                self.assertTrue(plain.same(reasons(case, unknown), good), (case, unknown))
                told = reason(case, unknown)
                self.assertTrue(told in good if good else told is None)
                self.check_holds(lambda value: reason_holds(case, unknown, value), good, len(case[2]), chance)
            self.assertTrue(plain.same(case, before))
        self.assertGreater(several, 20)

    def test_unknowns_that_are_not_forced(self):
        for value in WRONG_LOTS + ((0, 1, 2), (0,)):
            self.assertIs(reason_holds(A, 3, value), False)
            self.assertIs(reason_holds(A, 2, value), plain.same(value, (0, 1, 2)), value)
        self.assertEqual([reason(A, 3), reasons(A, 3)], [None, ()])
        self.assertEqual([reason((K, 40, ()), 39), reasons((K, 40, ()), 39)], [None, ()])

    def test_no_answers_behind_too_hard(self):
        clash = ((0, (0, 0)),)
        for unknowns in (15, 40):
            for stock, facts in (((X, T), clash), (NO_WAY, ()), (LOW_ONLY, ()), (HIGH_ONLY, ())):
                case = (stock, unknowns, facts)
                for function in (lambda: reason(case, 0), lambda: reasons(case, 0),
                    lambda: reason_holds(case, 0, (0,))):
                    self.assertTooHard(unknowns, function)
        for case in (((X, T), 14, clash), ((X,), 40, clash)):
            for function in (lambda: reason(case, 0), lambda: reasons(case, 0), lambda: reason_holds(case, 0, (0,))):
                with self.assertRaises(NoAnswers) as caught:
                    function()
                self.assertIs(refutes(case, caught.exception.reason), True)

    def test_great(self):
        chance = plain.chance_of(126)
        for word in FIRM:
            seen = 0
            for _ in range(30):
                stock = plain.kept_stock(chance, (word,), (2, 3, 3, 4))
                start = answer((stock, 40, tuple(plain.some_fact(chance, stock, 40) for _ in range(3))))
                if start is None or seen == 3:
                    continue
                facts = [plain.some_fact(chance, stock, 40) for _ in range(3000)]
                case = (stock, 40, tuple([fact for fact in facts if plain.holds(stock, (fact,), start)][:80]))
                unknown = chance.randrange(40)
                told = reason(case, unknown)
                if told is None:
                    continue
                seen += 1
                self.assertIs(reason_holds(case, unknown, told), True)
                self.assertIs(reason_holds(case, unknown, told[:-1]), False)
                self.assertIs(reason_holds(case, unknown, tuple(range(len(case[2])))), len(told) == len(case[2]))
                small = plain.lot_case(case, told)
                if len(told) <= 8:
                    self.assertEqual(reasons(small, unknown), (tuple(range(len(told))),))
            self.assertGreater(seen, 0, word)


if __name__ == "__main__":
    unittest.main()
