"""[A8]: relations made of relations."""

import copy
import itertools
import unittest

import plain
from plain import EXAMPLES
from sixkeepers.errors import Unfit
from sixkeepers.keepers import KEEPERS
from sixkeepers.relations import beside, common, either_of, hull, opposite, seen

X, O, I, T = [EXAMPLES[name] for name in "XOIT"]


def row_number(row):
    return int("".join(map(str, row)), 2)


def of_rows(arity, good):
    """The relation of the rows, out of all of so many items, that are good."""
    return (arity, tuple(row for row in plain.all_rows(arity) if good(row)))


def relations():
    """Relations of all arities: without rows, with all, with some."""
    chance = plain.chance_of(11)
    found = [relation for arity in (1, 2) for relation in plain.all_relations(arity)]
    for arity in (3, 4, 5):
        found += [(arity, ()), (arity, tuple(plain.all_rows(arity)))]
        found += [plain.some_relation(chance, arity) for _ in range(8)]
    return found


class Examples(unittest.TestCase):
    def test_example(self):
        told = [
            hull(X, ((0, 1, 1, 1),)), common(O, I), either_of(X, I), seen(T, (0, 1)), seen(T, (2, 2)), opposite(O),
        ]
        self.assertEqual(told, [
            (2, ((0, 1), (1, 0), (1, 1))), (2, ((0, 1), (1, 1))), (2, ((0, 0), (0, 1), (1, 0), (1, 1))),
            (2, ((0, 0), (0, 1), (1, 0))), (2, ((0, 0), (1, 1))), (2, ((0, 0), (0, 1), (1, 0))),
        ])
        self.assertEqual(beside((1, ((1,),)), X), (3, ((1, 0, 1), (1, 1, 0))))
        with self.assertRaises(Unfit):
            common(O, T)


class Pairs(unittest.TestCase):
    def test_against_all_rows(self):
        for one, other in itertools.product(relations(), repeat=2):
            before = copy.deepcopy((one, other))
            if one[0] == other[0]:
                good = of_rows(one[0], lambda row: row in one[1] and row in other[1])
                self.assertTrue(plain.same(common(one, other), good))
                good = of_rows(one[0], lambda row: row in one[1] or row in other[1])
                self.assertTrue(plain.same(either_of(one, other), good))
            else:
                self.assertRaises(Unfit, common, one, other)
                self.assertRaises(Unfit, either_of, one, other)
            arity = one[0] + other[0]
            if arity <= 5:
                good = of_rows(arity, lambda row: row[:one[0]] in one[1] and row[one[0]:] in other[1])
                self.assertTrue(plain.same(beside(one, other), good))
            else:
                self.assertRaises(Unfit, beside, one, other)
            self.assertTrue(plain.same((one, other), before))

    def test_edges_of_beside(self):
        self.assertEqual(beside((2, ()), (3, ())), (5, ()))
        self.assertRaises(Unfit, beside, (3, ()), (3, ()))
        self.assertRaises(Unfit, beside, (5, ()), (1, ()))
        self.assertEqual(beside((4, ((0, 0, 0, 1),)), (1, ((1,),))), (5, ((0, 0, 0, 1, 1),)))


class Single(unittest.TestCase):
    def test_seen(self):
        chance = plain.chance_of(12)
        for relation in relations():
            ways = [tuple(range(relation[0])), tuple(range(relation[0]))[::-1], (0,), (relation[0] - 1,) * 5]
            for many in range(1, 6):
                ways += [tuple(chance.randrange(relation[0]) for _ in range(many)) for _ in range(3)]
            for places in ways:
                shown = [[row[place] for place in places] for row in relation[1]]
                good = of_rows(len(places), lambda row: list(row) in shown)
                self.assertTrue(plain.same(seen(relation, places), good))

    def test_opposite(self):
        for relation in relations():
            good = of_rows(relation[0], lambda row: tuple([0, 1][item == 0] for item in row) in relation[1])
            self.assertTrue(plain.same(opposite(relation), good))
            self.assertEqual(opposite(opposite(relation)), relation)


class Hull(unittest.TestCase):
    def check(self, relation, operations):
        before = copy.deepcopy((relation, operations))
        told = hull(relation, operations)
        self.assertTrue(plain.same(told, plain.hull(relation, operations)), (relation, operations))
        self.assertTrue(set(relation[1]) <= set(told[1]))
        for operation in operations:
            self.assertTrue(plain.keeps(operation, told))
        self.assertEqual(hull(told, operations), told)
        self.assertTrue(plain.same((relation, operations), before))

    def test_no_operations(self):
        for relation in relations():
            self.check(relation, ())

    def test_the_six(self):
        chance = plain.chance_of(13)
        for relation in relations():
            self.check(relation, (chance.choice(KEEPERS)[1],))
        for relation in ((2, ((0, 1),)), (4, ((0, 0, 1, 1),)), (3, ())):
            self.check(relation, tuple(operation for _, operation in KEEPERS))

    def test_others(self):
        chance = plain.chance_of(14)
        for _ in range(150):
            arity = chance.randint(1, 4)
            relation = plain.some_relation(chance, arity, 0, 4)
            operations = tuple(
                chance.choice(plain.all_operations(chance.randint(1, 3))) for _ in range(chance.randint(1, 3))
            )
            self.check(relation, operations)

    def test_eight(self):
        chance = plain.chance_of(15)
        for _ in range(6):
            operations = tuple(chance.choice(plain.all_operations(chance.randint(1, 2))) for _ in range(8))
            self.check(plain.some_relation(chance, 5, 1, 3), operations)
        self.check((5, ((0, 0, 0, 1, 1), (0, 1, 1, 0, 0))), ((0, 1),) * 8)

    def test_no_row_that_need_not_be(self):
        # The least of all relations with the rows that the operations keep, out of all there are.
        chance = plain.chance_of(16)
        for relation in plain.all_relations(2):
            for _ in range(4):
                operations = tuple(chance.choice(plain.all_operations(chance.randint(1, 3))) for _ in range(2))
                kept = [
                    other for other in plain.all_relations(2)
                    if set(relation[1]) <= set(other[1]) and all(plain.keeps(op, other) for op in operations)
                ]
                self.assertEqual(hull(relation, operations), min(kept, key=lambda other: len(other[1])))

    def test_without_rows(self):
        for arity in range(1, 6):
            self.check((arity, ()), ((0, 0), (1, 1), (0, 1, 1, 1)))


if __name__ == "__main__":
    unittest.main()
