"""[C4]: sums."""

import copy
import itertools
import unittest

import plain
from plain import ODD_VALUES
from sixkeepers.sums import added_sum, case_sums, free_places, holds_sum, reduced, said_sums, sum_count, sum_error
from sixkeepers.sums import sum_paper, sum_paper_holds, sum_row, sums_of

S = (((0, 1), 1), ((1, 2), 0), ((0, 2), 1))
ODD = plain.SIX["odd"]


def some_sums(chance, many, count, most=4):
    return tuple(plain.some_sum(chance, many, most) for _ in range(count))


def sums_with(chance, row, count, most):
    """Sums that hold for the row."""
    found = []
    for places, _ in some_sums(chance, len(row), count, most):
        found.append((places, sum(row[k] for k in places) % 2))
    return tuple(found)


class Examples(unittest.TestCase):
    def test_examples(self):
        told = [
            reduced(S), reduced((((0,), 0), ((0,), 1))), added_sum(S[0], S[1]), sum_error(2, ((0, 2), 1)),
            sums_of((2, ((0, 0), (1, 1)))),
        ]
        good = [(((0, 1), 1), ((0, 2), 1)), (((), 1),), ((0, 2), 1), "sum", (((0, 1), 0),)]
        self.assertTrue(plain.same(told, good))
        told = [
            free_places(3, S), sum_count(3, S), sum_row(3, S, (1,)), sum_paper_holds(S, ((0, 2), 1), (0, 1)),
            sums_of((2, ())), sums_of((2, ((0, 1), (1, 0), (1, 1)))),
        ]
        self.assertEqual(told, [(0,), 2, (1, 0, 0), True, (((), 1),), ()])


class SumError(unittest.TestCase):
    def test_right_ones(self):
        for many in range(1, 41):
            for value in (((), 0), ((), 1), ((0,), 0), ((many - 1,), 1), (tuple(range(many)), 0),
                (tuple(range(0, many, 3)), 1)):
                self.assertIsNone(sum_error(many, value))

    def test_wrong_ones(self):
        for many in range(1, 41):
            for value in (
                ((many,), 0), ((-1,), 0), ((0, 0), 0), ([0], 0), [(0,), 0], ((0,),), ((0,), 0, 0), ((0,), 2),
                ((0,), -1), ((0,), True),
                ((0,), False), ((False,), 0), ((0,), None), (0, 0), ((0,), "0"), ((0,), (0,)), ((10 ** 45,), 0),
                ((0,), 10 ** 45),
                ({0: 0}, 0), ("0", 0),
            ):
                self.assertEqual(sum_error(many, value), "sum", (many, value))
        for value in (((1, 0), 0), ((2, 1), 1), ((0, True), 0), ((True,), 0)):
            self.assertEqual(sum_error(3, value), "sum")
        for value in ODD_VALUES:
            self.assertEqual(sum_error(40, value), "sum", value)

    def test_bent(self):
        chance = plain.chance_of(71)
        good = plain.all_sums(4)
        for _ in range(2500):
            value = plain.replaced(chance.choice(good), chance)
            right = any(plain.same(value, one) for one in good)
            self.assertEqual(sum_error(4, value), None if right else "sum", value)


class Plain(unittest.TestCase):
    def test_holds_and_added(self):
        for many in (1, 2, 3, 4):
            sums = plain.all_sums(many)
            for one in sums:
                for row in plain.all_rows(many):
                    self.assertIs(holds_sum(one, row), plain.holds_sum(one, row))
                for other in sums:
                    self.assertTrue(plain.same(added_sum(one, other), plain.added((one, other))))

    def test_at_forty(self):
        chance = plain.chance_of(72)
        for _ in range(300):
            one, other = some_sums(chance, 40, 2, 40)
            row = tuple(chance.randint(0, 1) for _ in range(40))
            self.assertIs(holds_sum(one, row), plain.holds_sum(one, row))
            self.assertTrue(plain.same(added_sum(one, other), plain.added((one, other))))
            both = holds_sum(one, row) == holds_sum(other, row)
            self.assertIs(holds_sum(added_sum(one, other), row), both)


class Reduced(unittest.TestCase):
    def test_small(self):
        chance = plain.chance_of(73)
        for _ in range(500):
            many = chance.randint(1, 6)
            sums = list(some_sums(chance, many, chance.randint(0, 8)))
            before = copy.deepcopy(sums)
            told = reduced(tuple(sums))
            self.assertTrue(all(sum_error(many, one) is None for one in told))
            self.assertTrue(plain.is_reduced(told), told)
            self.assertEqual(plain.sums_rows(many, told), plain.sums_rows(many, sums))
            self.assertEqual(told == (((), 1),), plain.sums_rows(many, sums) == ())
            chance.shuffle(sums)
            self.assertEqual(reduced(tuple(sums + sums[:2])), told)
            self.assertEqual(reduced(told), told)
            self.assertEqual(sorted(sums), sorted(before))

    def test_edges(self):
        self.assertEqual(reduced(()), ())
        self.assertEqual(reduced((((), 0),)), ())
        self.assertEqual(reduced((((), 1),)), (((), 1),))
        self.assertEqual(reduced((((5,), 1), ((), 1), ((7,), 0))), (((), 1),))
        self.assertEqual(reduced((((39,), 1), ((39,), 1))), (((39,), 1),))
        self.assertEqual(reduced((((0, 39), 1), ((0,), 1))), (((0,), 1), ((39,), 0)))

    def test_great(self):
        chance = plain.chance_of(74)
        for count, most in ((40, 4), (400, 40), (400, 3), (120, 40), (30, 40), (400, 2)):
            row = tuple(chance.randint(0, 1) for _ in range(40))
            sums = list(sums_with(chance, row, count, most))
            told = reduced(tuple(sums))
            self.assertTrue(plain.is_reduced(told))
            self.assertTrue(all(plain.holds_sum(one, row) for one in told))
            for one in told:
                paper = sum_paper(tuple(sums), one)
                self.assertEqual(plain.added([sums[k] for k in paper]), one)
            for one in sums:
                self.assertIsNotNone(sum_paper(told, one))
            chance.shuffle(sums)
            self.assertEqual(reduced(tuple(sums)), told)
            places = max(told)[0]
            self.assertEqual(reduced(tuple(sums[:-1] + [(places, 1 - dict(told)[places])] + sums[-1:])), (((), 1),))


class OfRelations(unittest.TestCase):
    def test_sums_of(self):
        chance = plain.chance_of(75)
        relations = [relation for arity in (1, 2, 3) for relation in plain.all_relations(arity)]
        relations += [plain.some_relation(chance, arity, 0, most) for arity in (4, 5) for most in (1, 2, 4, 32)
            for _ in range(20)]
        for relation in relations:
            told = sums_of(relation)
            self.assertTrue(plain.is_reduced(told))
            self.assertTrue(all(sum_error(relation[0], one) is None for one in told))
            around = plain.hull(relation, (ODD,))
            self.assertEqual(plain.sums_rows(relation[0], told), around[1], relation)
            self.assertTrue(plain.same(said_sums(relation[0], told), around))
            self.assertEqual(around == relation, plain.keeps(ODD, relation))

    def test_said_sums(self):
        chance = plain.chance_of(76)
        for arity in range(1, 6):
            self.assertEqual(said_sums(arity, ()), (arity, tuple(plain.all_rows(arity))))
            self.assertEqual(said_sums(arity, (((), 1),)), (arity, ()))
            for _ in range(60):
                sums = some_sums(chance, arity, chance.randint(0, 4), 5)
                self.assertTrue(plain.same(said_sums(arity, sums), (arity, plain.sums_rows(arity, sums))))


class Papers(unittest.TestCase):
    def check(self, sums, wanted):
        before = copy.deepcopy((sums, wanted))
        told = sum_paper(sums, wanted)
        if told is not None:
            self.assertTrue(all(type(index) is int and 0 <= index < len(sums) for index in told))
            self.assertEqual(told, tuple(sorted(set(told))))
            self.assertEqual(plain.added([sums[index] for index in told]), wanted)
            self.assertIs(sum_paper_holds(sums, wanted, told), True)
        self.assertEqual(sum_paper(sums, wanted), told)
        self.assertTrue(plain.same((sums, wanted), before))
        return told

    def test_small(self):
        chance = plain.chance_of(77)
        nones = 0
        for _ in range(500):
            sums = some_sums(chance, 5, chance.randint(0, 7), 3)
            wanted = plain.some_sum(chance, 5, 5)
            right = [
                lot for lot in plain.all_subsets(range(len(sums))) if plain.added([sums[k] for k in lot]) == wanted
            ]
            told = self.check(sums, wanted)
            self.assertEqual(told is not None, bool(right))
            nones += told is None
            for lot in plain.all_subsets(range(min(len(sums), 5))):
                self.assertIs(sum_paper_holds(sums, wanted, lot), lot in right)
        self.assertTrue(100 < nones < 400)

    def test_edges(self):
        self.assertEqual(sum_paper((), ((), 0)), ())
        self.assertIsNone(sum_paper((), ((), 1)))
        self.assertEqual(sum_paper((((), 1),), ((), 1)), (0,))
        self.assertEqual(self.check(S, ((), 0)), ())
        self.assertIsNone(self.check(S, ((0, 1), 0)))
        self.assertIsNotNone(self.check((((0,), 0), ((0,), 1), ((3,), 1)), ((3,), 0)))
        self.assertIsNone(self.check((((39,), 1),), ((38,), 1)))

    def test_great(self):
        chance = plain.chance_of(78)
        for count, most in ((400, 40), (400, 3), (40, 5)):
            sums = some_sums(chance, 40, count, most)
            for _ in range(5):
                wanted = plain.added([sums[k] for k in chance.sample(range(count), chance.randint(0, 12))])
                self.assertIsNotNone(self.check(sums, wanted))
            self.check(sums, plain.some_sum(chance, 40, 40))

    def test_holds_wrong(self):
        good = ((0, 2), 1)
        self.assertIs(sum_paper_holds(S, good, (0, 1)), True)
        self.assertIs(sum_paper_holds(S, good, (2,)), True)
        for value in (
            (), (1,), (0,), (1, 0), (0, 1, 1), (0, 0, 2), [0, 1], (False, 1), (0, True), (0, 1, 2), (0, 3), (-1,),
            (2, 2, 2), ((2,),),
            (0, 1, 10 ** 50), "01", (-3, -2), ("2",),
        ) + ODD_VALUES:
            self.assertIs(sum_paper_holds(S, good, value), False, value)
        self.assertIs(sum_paper_holds(S, ((), 0), ()), True)
        self.assertIs(sum_paper_holds(S, ((), 0), (0, 1, 2)), True)


class Rows(unittest.TestCase):
    def check(self, many, sums):
        rows = plain.sums_rows(many, sums)
        free = free_places(many, sums)
        self.assertEqual(sum_count(many, sums), len(rows))
        if not rows:
            self.assertIsNone(free)
            return
        heads = [one[0][-1] for one in reduced(sums)]
        self.assertTrue(plain.same(free, tuple(k for k in range(many) if k not in heads)))
        self.assertEqual(2 ** len(free), len(rows))
        told = [sum_row(many, sums, values) for values in itertools.product((0, 1), repeat=len(free))]
        self.assertTrue(plain.same(told, list(rows)))

    def test_up_to_ten_places(self):
        chance = plain.chance_of(79)
        for many in range(1, 11):
            self.check(many, ())
            self.check(many, (((), 1),))
            for _ in range(12 if many > 7 else 40):
                self.check(many, some_sums(chance, many, chance.randint(0, many + 1), chance.choice((2, 4, 10))))

    def test_at_forty(self):
        chance = plain.chance_of(80)
        for count in (0, 1, 10, 39, 60, 400):
            row = tuple(chance.randint(0, 1) for _ in range(40))
            sums = sums_with(chance, row, count, 5)
            free = free_places(40, sums)
            self.assertEqual(sum_count(40, sums), 2 ** len(free))
            self.assertEqual(len(free) + len(reduced(sums)), 40)
            self.assertEqual(sum_row(40, sums, tuple(row[k] for k in free)), row)
            ahead = None
            for values in sorted({tuple(chance.randint(0, 1) for _ in free) for _ in range(6)}):
                told = sum_row(40, sums, values)
                self.assertTrue(all(plain.holds_sum(one, told) for one in sums))
                self.assertEqual(tuple(told[k] for k in free), values)
                self.assertTrue(ahead is None or ahead < told)
                ahead = told
        self.assertEqual(sum_count(40, ()), 2 ** 40)
        self.assertIsNone(free_places(40, (((3,), 1), ((3,), 0))))
        self.assertEqual(sum_count(40, (((3,), 1), ((3,), 0))), 0)


class CaseSums(unittest.TestCase):
    def check(self, case):
        before = copy.deepcopy(case)
        told = case_sums(case)
        self.assertTrue(plain.is_reduced(told))
        self.assertTrue(all(sum_error(case[1], one) is None for one in told))
        good = []
        for row in plain.all_rows(case[1]):
            if all(
                plain.holds_sum(one, tuple(row[k] for k in places)) for index,
                places in case[2] for one in sums_of(case[0][index])
            ):
                good.append(row)
        self.assertEqual(list(plain.sums_rows(case[1], told)), good)
        self.assertEqual(case_sums(case), told)
        self.assertTrue(plain.same(case, before))
        return good

    def test_any_stock(self):
        chance = plain.chance_of(81)
        for _ in range(120):
            stock = plain.some_stock(chance, (1, 2, 3, 4, 5))
            self.check(plain.some_case(chance, stock, chance.randint(1, 6), 5))

    def test_stock_that_odd_keeps(self):
        chance = plain.chance_of(82)
        for _ in range(200):
            case = plain.some_case(chance, plain.kept_stock(chance, ("odd",)), chance.randint(1, 6), 6)
            self.assertEqual(self.check(case), plain.answers(case))

    def test_unknowns_that_stand_several_times(self):
        three = (3, ((0, 0, 1), (0, 1, 0), (1, 0, 0), (1, 1, 1)))
        self.assertEqual(case_sums(((three,), 2, ((0, (1, 0, 1)),))), (((0,), 1),))
        self.assertEqual(case_sums(((three,), 2, ((0, (1, 1, 1)),))), (((1,), 1),))
        unlike = (2, ((0, 1), (1, 0)))
        self.assertEqual(case_sums(((unlike,), 2, ((0, (1, 1)),))), (((), 1),))
        self.assertEqual(case_sums((((2, ((0, 0), (1, 1))),), 2, ((0, (1, 1)),))), ())
        self.assertEqual(case_sums(((unlike,), 40, ())), ())

    def test_great(self):
        chance = plain.chance_of(83)
        for _ in range(10):
            stock = plain.kept_stock(chance, ("odd",))
            row = tuple(chance.randint(0, 1) for _ in range(40))
            facts = [plain.some_fact(chance, stock, 40) for _ in range(4000)]
            facts = [fact for fact in facts if plain.holds(stock, (fact,), row)][:80]
            told = case_sums((stock, 40, tuple(facts)))
            self.assertTrue(plain.is_reduced(told) and all(plain.holds_sum(one, row) for one in told))
            if free_places(40, told):
                other = sum_row(40, told, tuple(chance.randint(0, 1) for _ in free_places(40, told)))
                self.assertTrue(plain.holds(stock, facts, other))


if __name__ == "__main__":
    unittest.main()
