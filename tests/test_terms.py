"""[B1]: operations that are made of others."""

import copy
import itertools
import unittest

import plain
from plain import ODD_VALUES
from sixkeepers.keepers import KEEPERS
from sixkeepers.terms import all_made, made, made_holds

AND = ((0, 0, 0, 1),)
OR = (0, 1, 1, 1)
NOT = (1, 0)
THREE = (0, 0, 0, 0, 0, 0, 0, 1)
SIX = tuple(operation for _, operation in KEEPERS)


def step_operation(operations, step, many, ahead):
    """What a step is, by the words of the document; ahead are the things and the steps ahead of it."""
    index, parts = step
    return plain.laid(operations[index], [ahead[part] for part in parts])


def last_of(operations, steps, many):
    ahead = plain.things(many)
    for index, parts in steps:
        assert len(parts) == plain.thing_count(operations[index])
        assert all(type(part) is int and 0 <= part < len(ahead) for part in parts)
        ahead.append(step_operation(operations, (index, parts), many, ahead))
    return ahead[-1]


def keeps_many(operation, relation):
    """As plain.keeps, over numbers, for relations of many rows."""
    full = 2 ** relation[0] - 1
    rows = [int("".join(map(str, row)), 2) for row in relation[1]]
    held = set(rows)
    terms = [values for values in plain.all_rows(plain.thing_count(operation)) if plain.value_of(operation, values)]
    for some in itertools.product(rows, repeat=plain.thing_count(operation)):
        total = 0
        for values in terms:
            part = full
            for value, row in zip(values, some):
                part &= row if value else full ^ row
            total |= part
        if total not in held:
            return False
    return True


def some_operations(chance, many):
    return tuple(chance.choice(plain.all_operations(chance.randint(1, 3))) for _ in range(many))


class Examples(unittest.TestCase):
    def test_example(self):
        told = [all_made(AND, 2), all_made((), 1), made(AND, (0, 1))]
        self.assertEqual(told, [((0, 0, 0, 1), (0, 0, 1, 1), (0, 1, 0, 1)), ((0, 1),), ("steps", ())])
        told = [
            made_holds(AND, THREE, ("steps", ((0, (0, 1)), (0, (3, 2))))),
            made_holds(AND, THREE, ("steps", ((0, (0, 1)),))), made(AND, OR)[0],
            made_holds(AND, OR, ("barred", (2, ((0, 0), (0, 1), (1, 0))))),
        ]
        self.assertEqual(told, [True, False, "barred", True])


class Made(unittest.TestCase):
    def check(self, operations, operation):
        before = copy.deepcopy((operations, operation))
        told = made(operations, operation)
        many = plain.thing_count(operation)
        self.assertIs(type(told), tuple)
        word, paper = told
        if word == "steps":
            self.assertIs(type(paper), tuple)
            if paper == ():
                self.assertIn(operation, plain.things(many))
            else:
                for step in paper:
                    self.assertIs(type(step), tuple)
                    self.assertIs(type(step[1]), tuple)
                    self.assertTrue(type(step[0]) is int and 0 <= step[0] < len(operations))
                self.assertEqual(last_of(operations, paper, many), operation)
            if operation in plain.things(many):
                self.assertEqual(paper, ())
        else:
            self.assertEqual(word, "barred")
            places, rows = paper
            self.assertTrue(1 <= places <= 8)
            self.assertEqual(rows, tuple(sorted(set(rows))))
            self.assertTrue(all(len(row) == places for row in rows))
            for other in operations:
                self.assertTrue(keeps_many(other, paper))
            self.assertFalse(keeps_many(operation, paper))
        self.assertIs(made_holds(operations, operation, told), True)
        self.assertEqual(made(operations, operation), told)
        self.assertTrue(plain.same((operations, operation), before))
        return word

    def test_one_and_two_things(self):
        chance = plain.chance_of(31)
        for _ in range(60):
            operations = some_operations(chance, chance.randint(0, 3))
            for many in (1, 2):
                good = plain.clone(operations, many)
                self.assertTrue(plain.same(all_made(operations, many), good))
                for operation in plain.all_operations(many):
                    self.assertEqual(self.check(operations, operation) == "steps", operation in good)

    def test_three_things(self):
        chance = plain.chance_of(32)
        for operations in (
            (), AND, (OR,), (NOT,), ((0, 0), (1, 1)), AND + (OR,), (SIX[4],), (SIX[5],), (SIX[4], SIX[5]), ((0, 0, 1, 0),),
            AND + ((0, 0),), ((0, 0, 0, 0, 0, 1, 1, 1),), ((0, 0, 0, 1, 1, 1, 1, 1), (1, 1)),
        ):
            good = plain.clone(operations, 3)
            self.assertTrue(plain.same(all_made(operations, 3), good))
            for operation in chance.sample(plain.all_operations(3), 12) + list(good[:20]):
                self.assertEqual(self.check(operations, operation) == "steps", operation in good)

    def test_great(self):
        # What leaves 0 as it is, what leaves 1, what turns with all of its things, everything.
        for operations, good in (
            (((0, 1, 1, 0),) + AND, lambda op: op[0] == 0),
            (((1, 0, 0, 1), OR), lambda op: op[-1] == 1),
            ((SIX[4], NOT), lambda op: all(op[k] != op[7 - k] for k in range(8))),
            (((1, 1, 1, 0),), lambda op: True),
            (SIX, lambda op: True),
        ):
            told = all_made(operations, 3)
            self.assertEqual(told, tuple(op for op in plain.all_operations(3) if good(op)))
            for operation in plain.all_operations(3)[::37]:
                self.assertEqual(self.check(operations, operation) == "steps", operation in told)

    def test_six_operations(self):
        # Low, high, both and either make all that never falls where something rises.
        def rises(op):
            return all(
                op[i] <= op[j] for i, j in itertools.product(range(8), repeat=2) if i & j == i
            )
        operations = SIX[:5] + ((0, 1),)
        self.assertEqual(all_made(operations, 3), tuple(op for op in plain.all_operations(3) if rises(op)))
        even = ((0, 1, 1, 0), (1, 1), (0, 1, 1, 0), (0, 0), (1, 0), (0, 1, 1, 0, 1, 0, 0, 1))
        sums = {tuple((a * x + b * y + c * z + d) & 1 for x, y, z in plain.all_rows(3)) for a, b, c, d in plain.all_rows(4)}
        self.assertEqual(all_made(even, 3), tuple(sorted(sums)))

    def test_a_thing_itself(self):
        for many in (1, 2, 3):
            for operation in plain.things(many):
                for operations in ((), AND, SIX):
                    self.assertEqual(made(operations, operation), ("steps", ()))

    def test_no_operations(self):
        for many in (1, 2, 3):
            self.assertTrue(plain.same(all_made((), many), tuple(sorted(plain.things(many)))))
        self.assertEqual(self.check((), (0, 0)), "barred")
        self.assertEqual(self.check((), SIX[4]), "barred")


class Holds(unittest.TestCase):
    def yes(self, operations, operation, value):
        before = copy.deepcopy(value)
        self.assertIs(made_holds(operations, operation, value), True)
        self.assertTrue(plain.same(value, before))

    def no(self, operations, operation, value):
        before = copy.deepcopy(value)
        self.assertIs(made_holds(operations, operation, value), False, value)
        self.assertTrue(plain.same(value, before))

    def test_by_hand(self):
        self.yes(AND, AND[0], ("steps", ((0, (0, 1)),)))
        self.yes(AND, AND[0], ("steps", ((0, (1, 0)),)))
        self.yes(AND, AND[0], ("steps", ((0, (0, 0)), (0, (2, 1)))))
        self.yes(AND, AND[0], ("steps", ((0, (1, 1)), (0, (0, 0)), (0, (0, 1)))))
        self.yes(AND + (NOT,), OR, ("steps", ((1, (0,)), (1, (1,)), (0, (2, 3)), (1, (4,)))))
        self.yes((SIX[4],), (0, 0, 1, 1), ("steps", ((0, (0, 0, 1)),)))

    def test_a_thing_itself(self):
        self.yes(AND, (0, 1), ("steps", ()))
        self.yes(AND, (0, 1), ("steps", ((0, (0, 0)),)))
        self.yes(AND, (0, 0, 1, 1), ("steps", ()))
        self.yes(AND, (0, 1, 0, 1), ("steps", ((0, (0, 1)), (0, (1, 1)))))
        self.no(AND, AND[0], ("steps", ()))
        self.no(AND, (1, 0), ("steps", ()))
        self.no((), (0, 0), ("steps", ()))

    def test_equal_operations(self):
        twice = AND + AND
        self.yes(twice, THREE, ("steps", ((1, (0, 1)), (0, (3, 2)))))
        self.yes(twice, THREE, ("steps", ((1, (2, 1)), (1, (3, 0)))))

    def test_wrong_steps(self):
        for steps in (
            ((0, (0, 1)), (0, (3, 1))), ((0, (0, 1)), (0, (4, 2))), ((0, (0, 3)), (0, (3, 2))), ((0, (0, 1)), (1, (3, 2))),
            ((0, (0, 1)), (-1, (3, 2))), ((0, (0, 1)), (0, (3, -1))), ((0, (0, 1)), (0, (3,))), ((0, (0, 1)), (0, (3, 2, 2))),
            ((0, (0, 1)), (False, (3, 2))), ((0, (0, True)), (0, (3, 2))), ((False, (0, 1)), (0, (3, 2))),
            ((0, (False, 1)), (0, (3, 2))), [(0, (0, 1)), (0, (3, 2))], ((0, [0, 1]), (0, (3, 2))),
            ([0, (0, 1)], (0, (3, 2))), ((0, (0, 1)), (0, (3, 2)), ()), ((0, (0, 1), 0), (0, (3, 2))), ((0, (0, 1)), None),
            ((0, (3, 2)), (0, (0, 1))), ((0, (0, 1)), (0, (3, 2)), (0, (0, 1))), None, 0, "", {}, [],
            ((0, (0, 1)), (0, (3, "2"))), ((10 ** 50, (0, 1)), (0, (3, 2))), ((0, (0, 1)), (0, (10 ** 50, 2))),
        ):
            self.no(AND, THREE, ("steps", steps))
        self.no((), THREE, ("steps", ((0, (0, 1)),)))

    def test_wrong_words(self):
        good = ((0, (0, 1)), (0, (3, 2)))
        barring = (2, ((0, 0), (0, 1), (1, 0)))
        self.yes(AND, THREE, ("steps", good))
        for value in (
            ("barred", good), ("step", good), ("STEPS", good), (None, good), ("steps", good, ()), ("steps",), ["steps", good],
            (good, "steps"), good, "steps", (b"steps", good), ((), good), ([], good),
        ):
            self.no(AND, THREE, value)
        self.yes(AND, OR, ("barred", barring))
        for value in (("steps", barring), ("Barred", barring), ["barred", barring], ("barred", barring, 0), barring, "barred"):
            self.no(AND, OR, value)

    def test_values_of_other_kinds(self):
        for value in ODD_VALUES:
            for operation in ((0, 1), (0, 0), AND[0], THREE):
                self.no(AND, operation, value)
                self.no(AND, operation, ("barred", value))
                if value != ():
                    self.no(AND, operation, ("steps", value))

    def test_wrong_barring(self):
        for barring in (
            (2, ((0, 0), (1, 0), (0, 1))), (2, ((0, 0), (0, 1), (0, 1), (1, 0))), (2, [(0, 0), (0, 1), (1, 0)]),
            (2, ([0, 0], (0, 1), (1, 0))), [2, ((0, 0), (0, 1), (1, 0))], (2, ((0, 0), (0, 1), (True, 0))),
            (3, ((0, 0), (0, 1), (1, 0))), (2, ((0, 1), (1, 0))), (2, ((0, 0), (0, 1), (1, 0), (1, 1))), (2, ()),
            (True, ((0,), (1,))), (0, ((),)), (2, ((0, 0), (0, 1), (1, 2))), (2,), (2, ((0, 0), (0, 1), (1, 0)), ()), None,
            (1, ((0,), (1,))), ("2", ((0, 0), (0, 1), (1, 0))), (2, ((0, 0), (0, 1), (1, 0, 0))),
        ):
            self.no(AND, OR, ("barred", barring))

    def test_places(self):
        # A relation of nine places bars nothing, however right it would be else.
        for places in range(2, 12):
            rows = tuple((0,) * (places - 2) + row for row in ((0, 0), (0, 1), (1, 0)))
            (self.yes if places <= 8 else self.no)(AND, OR, ("barred", (places, rows)))
        self.yes((), (1, 1), ("barred", (1, ((0,),))))
        self.no(((1, 1),), (1, 1), ("barred", (1, ((0,),))))

    def test_many_rows(self):
        all_but_one = (8, tuple(plain.all_rows(8)[:-1]))
        self.yes(AND, OR, ("barred", all_but_one))
        self.no((OR,), AND[0], ("barred", all_but_one))
        self.no(AND, OR, ("barred", (8, tuple(plain.all_rows(8)))))

    def test_each_must_keep(self):
        relation = (2, ((0, 0), (0, 1), (1, 0)))
        self.no(AND + (NOT,), OR, ("barred", relation))
        self.no((NOT,) + AND, OR, ("barred", relation))
        self.yes(AND + ((0, 0),) + AND, OR, ("barred", relation))

    def test_something_otherwise(self):
        chance = plain.chance_of(33)
        kept = 0
        for _ in range(400):
            operations = some_operations(chance, chance.randint(1, 3))
            operation = chance.choice(plain.all_operations(chance.randint(1, 2)))
            paper = made(operations, operation)
            for _ in range(12):
                value = plain.replaced(paper, chance)
                good = paper_holds(operations, operation, value)
                kept += good
                self.assertIs(made_holds(operations, operation, value), good, (operations, operation, value))
        self.assertGreater(kept, 50)


def paper_holds(operations, operation, value):
    """As made_holds, by the kinds of all parts and then by the plainest reckoning."""
    many = plain.thing_count(operation)
    if type(value) is not tuple or len(value) != 2 or type(value[0]) is not str or type(value[1]) is not tuple:
        return False
    word, paper = value
    if word == "steps":
        ahead = plain.things(many)
        for step in paper:
            if type(step) is not tuple or len(step) != 2 or type(step[0]) is not int or type(step[1]) is not tuple:
                return False
            index, parts = step
            if not 0 <= index < len(operations) or len(parts) != plain.thing_count(operations[index]):
                return False
            if not all(type(part) is int and 0 <= part < len(ahead) for part in parts):
                return False
            ahead.append(step_operation(operations, step, many, ahead))
        return ahead[-1] == operation if paper else operation in ahead
    if word != "barred" or len(paper) != 2 or type(paper[0]) is not int or type(paper[1]) is not tuple:
        return False
    places, rows = paper
    for row in rows:
        if type(row) is not tuple or len(row) != places or not all(type(k) is int and k in (0, 1) for k in row):
            return False
    if not 1 <= places <= 8 or list(rows) != sorted(set(rows)):
        return False
    return not plain.keeps(operation, paper) and all(plain.keeps(other, paper) for other in operations)


if __name__ == "__main__":
    unittest.main()
