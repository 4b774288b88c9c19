"""[A6] and [A7]: operations and what they keep."""

import copy
import unittest

import plain
from plain import EXAMPLES
from sixkeepers.keepers import KEEPERS, all_keepers, broken, keepers, keeps, kept_by, laid, way

X, O, I, T = [EXAMPLES[name] for name in "XOIT"]
SIX = (
    ("low", (0, 0)), ("high", (1, 1)), ("both", (0, 0, 0, 1)), ("either", (0, 1, 1, 1)),
    ("most", (0, 0, 0, 1, 0, 1, 1, 1)), ("odd", (0, 1, 1, 0, 1, 0, 0, 1)),
)


class Examples(unittest.TestCase):
    def test_names(self):
        told = [keepers(X), keepers(O), keepers(I), keepers(T), kept_by((X, O)), way((X, O)), way((T,))]
        self.assertEqual(told, [
            ("most", "odd"), ("high", "either", "most"), ("low", "high", "both", "either", "most"), (),
            ("most",), "most", None,
        ])

    def test_operations(self):
        told = [
            laid((0, 0, 0, 1), ((0, 1, 1), (1, 1, 0))), keeps((1, 0), X), broken((0, 0, 0, 1), I),
            all_keepers((X,), 1),
        ]
        self.assertEqual(told, [(0, 1, 0), True, None, ((0, 1), (1, 0))])
        self.assertEqual([name for name, operation in KEEPERS], ["low", "high", "both", "either", "most", "odd"])


class Six(unittest.TestCase):
    def test_table(self):
        self.assertTrue(plain.same(KEEPERS, SIX))

    def test_words(self):
        table = dict(KEEPERS)
        for row in plain.all_rows(1):
            self.assertEqual(plain.value_of(table["low"], row), 0)
            self.assertEqual(plain.value_of(table["high"], row), 1)
        for row in plain.all_rows(2):
            self.assertEqual(plain.value_of(table["both"], row), min(row))
            self.assertEqual(plain.value_of(table["either"], row), max(row))
        for row in plain.all_rows(3):
            self.assertEqual(plain.value_of(table["most"], row), int(sum(row) > 1))
            self.assertEqual(plain.value_of(table["odd"], row), sum(row) & 1)


class Laid(unittest.TestCase):
    def test_all_operations_of_one_and_two_things(self):
        for many in (1, 2):
            rows = tuple(plain.things(many))
            for operation in plain.all_operations(many):
                self.assertTrue(plain.same(laid(operation, rows), operation))

    def test_three_things(self):
        rows = tuple(plain.things(3))
        for operation in plain.all_operations(3):
            self.assertEqual(laid(operation, rows), operation)

    def test_the_first_thing_first(self):
        self.assertEqual(laid((0, 0, 1, 0), ((0, 0, 1, 1), (0, 1, 0, 1))), (0, 0, 1, 0))
        self.assertEqual(laid((0, 0, 0, 0, 1, 0, 0, 0), ((1,), (0,), (0,))), (1,))
        self.assertEqual(laid((0, 1, 0, 0, 0, 0, 0, 0), ((0,), (0,), (1,))), (1,))

    def test_lengths(self):
        chance = plain.chance_of(2)
        for many in (1, 2, 3):
            for length in (0, 1, 2, 17, 59, 60):
                operation = chance.choice(plain.all_operations(many))
                rows = tuple(tuple(chance.randint(0, 1) for _ in range(length)) for _ in range(many))
                told = laid(operation, rows)
                self.assertIs(type(told), tuple)
                self.assertEqual(len(told), length)
                for place in range(length):
                    self.assertEqual(told[place], plain.value_of(operation, [row[place] for row in rows]))

    def test_alike_rows(self):
        row = (0, 1, 1, 0)
        self.assertEqual(laid((0, 1, 1, 0, 1, 0, 0, 1), (row, row, row)), row)
        self.assertEqual(laid((0, 1, 1, 0), (row, row)), (0, 0, 0, 0))


class Keeps(unittest.TestCase):
    def check(self, operation, relation):
        before = copy.deepcopy((operation, relation))
        good = plain.keeps(operation, relation)
        self.assertIs(keeps(operation, relation), good)
        rows = broken(operation, relation)
        if good:
            self.assertIsNone(rows)
        else:
            self.assertIs(type(rows), tuple)
            self.assertEqual(len(rows), plain.thing_count(operation))
            for row in rows:
                self.assertTrue(any(plain.same(row, one) for one in relation[1]))
            self.assertNotIn(plain.laid(operation, rows), relation[1])
        self.assertTrue(plain.same((operation, relation), before))
        self.assertEqual(broken(operation, relation), rows)

    def test_small_relations(self):
        for arity in (1, 2):
            for relation in plain.all_relations(arity):
                for many in (1, 2, 3):
                    for operation in plain.all_operations(many):
                        self.check(operation, relation)

    def test_three_places(self):
        chance = plain.chance_of(3)
        for relation in plain.all_relations(3):
            for many in (1, 2, 3):
                for operation in chance.sample(plain.all_operations(many), 4):
                    self.check(operation, relation)
            for _, operation in SIX:
                self.check(operation, relation)

    def test_great_relations(self):
        chance = plain.chance_of(4)
        for arity in (4, 5):
            for _ in range(40):
                relation = plain.some_relation(chance, arity, 0, 9)
                self.check(chance.choice(plain.all_operations(chance.randint(1, 3))), relation)
            for _, operation in SIX:
                closed = plain.hull(plain.some_relation(chance, arity, 1, 5), (operation,))
                self.check(operation, closed)

    def test_all_rows_and_none(self):
        for arity in range(1, 6):
            for _, operation in SIX:
                self.assertIs(keeps(operation, (arity, ())), True)
                self.assertIsNone(broken(operation, (arity, ())))
                self.assertIs(keeps(operation, (arity, tuple(plain.all_rows(arity)))), True)


class Names(unittest.TestCase):
    def test_relations(self):
        for arity in (1, 2, 3):
            for relation in plain.all_relations(arity):
                names = tuple(name for name, operation in SIX if plain.keeps(operation, relation))
                self.assertTrue(plain.same(keepers(relation), names))

    def test_without_rows(self):
        for arity in range(1, 6):
            self.assertEqual(keepers((arity, ())), tuple(name for name, _ in SIX))

    def check_stock(self, stock):
        names = tuple(name for name, operation in SIX if plain.keeps_stock(operation, stock))
        self.assertTrue(plain.same(kept_by(stock), names))
        self.assertEqual(way(stock), names[0] if names else None)
        return names

    def test_stocks(self):
        chance = plain.chance_of(6)
        for _ in range(300):
            self.check_stock(plain.some_stock(chance))

    def test_each_way(self):
        chance = plain.chance_of(9)
        zero, one = (1, ((0,),)), (1, ((1,),))
        ways = set()
        for name, operation in SIX * 12:
            closed = plain.hull(plain.some_relation(chance, 3, 2, 4), (operation,))
            names = self.check_stock((closed,))
            self.assertIn(name, names)
            ways |= {names[0], (self.check_stock((closed, zero, one)) or (None,))[0]}
        self.assertEqual(ways, {"low", "high", "both", "either", "most", "odd", None})

    def test_all_some_none(self):
        same = (2, ((0, 0), (1, 1)))
        self.assertEqual(kept_by((same, same)), ("low", "high", "both", "either", "most", "odd"))
        self.assertEqual(way((same,)), "low")
        self.assertEqual(kept_by((X, T)), ())
        self.assertIsNone(way((X, O, I, T)))
        self.assertEqual(kept_by((X, I)), ("most",))
        self.assertEqual(way((O, I)), "high")


class AllKeepers(unittest.TestCase):
    def check(self, stock, many):
        good = tuple(op for op in plain.all_operations(many) if plain.keeps_stock(op, stock))
        told = all_keepers(stock, many)
        self.assertTrue(plain.same(told, good), (stock, many))

    def test_small_stocks(self):
        for arity in (1, 2):
            for relation in plain.all_relations(arity):
                if relation[1]:
                    for many in (1, 2, 3):
                        self.check((relation,), many)

    def test_some_stocks(self):
        chance = plain.chance_of(7)
        for _ in range(25):
            stock = plain.some_stock(chance)
            for many in (1, 2, 3):
                self.check(stock, many)

    def test_great_stocks(self):
        chance = plain.chance_of(8)
        for _ in range(4):
            stock = tuple(plain.some_relation(chance, chance.randint(3, 5), 5, 12) for _ in range(6))
            for many in (1, 2, 3):
                self.check(stock, many)
        self.check(((5, tuple(plain.all_rows(5)[:12])),) * 6, 2)

    def test_one_relation_is_not_enough(self):
        self.assertEqual(all_keepers(((1, ((0,),)), (1, ((1,),))), 1), ((0, 1),))
        self.assertEqual(all_keepers(((1, ((0,), (1,))),), 1), ((0, 0), (0, 1), (1, 0), (1, 1)))
        self.assertEqual(len(all_keepers(((1, ((0,), (1,))),), 3)), 256)


if __name__ == "__main__":
    unittest.main()
