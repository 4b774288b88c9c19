"""[A4] and [A5]: relations, stocks, cases, rows, answers."""

import copy
import unittest

import plain
from plain import EXAMPLES, ODD_VALUES
from sixkeepers.forms import case_error, is_answer, is_row, relation_error, stock_error

X = EXAMPLES["X"]
C = ((X,), 3, ((0, (0, 1)), (0, (1, 2))))
ONE = (1, ((1,),))
ANY = (1, ((0,), (1,)))
FIVE = (5, tuple(plain.all_rows(5)))


def first_rows(arity, many):
    return (arity, tuple(plain.all_rows(arity)[:many]))


class Examples(unittest.TestCase):
    def test_errors(self):
        told = [
            relation_error(X), relation_error((2, ((1, 0), (0, 1)))), relation_error((6, ())),
            stock_error((X, (1, ()))), case_error(((X,), 3, ((0, (0, 2)), (0, (3, 0))))),
        ]
        self.assertEqual(told, [None, (1, "order"), (None, "arity"), (1, "relation"), (1, "fact")])

    def test_answers(self):
        told = [is_answer(C, (0, 1, 0)), is_answer(C, (0, 1, 1)), is_row((1, 0), 2), is_row((1, True), 2)]
        self.assertEqual(told, [True, False, True, False])


class Relations(unittest.TestCase):
    def check(self, value, error):
        before = copy.deepcopy(value)
        told = relation_error(value)
        self.assertTrue(plain.same(told, error), (value, told, error))
        self.assertTrue(plain.same(value, before))

    def test_good(self):
        for relation in (X, ONE, (1, ()), (5, ()), FIVE, (2, ((1, 1),))):
            self.check(relation, None)
        for arity in (1, 2, 3):
            for relation in plain.all_relations(arity):
                self.check(relation, None)

    def test_no_pair(self):
        for value in ODD_VALUES:
            if not (isinstance(value, tuple) and len(value) == 2):
                self.check(value, (None, "relation"))
        for value in ([2, ((0, 1),)], (2,), (2, (), ()), {0: 2, 1: ()}, "ab", [1, 2]):
            self.check(value, (None, "relation"))

    def test_arity(self):
        for arity in (0, 6, -1, 10 ** 39, -(10 ** 39), True, False, None, "2", (2,), [2], {}):
            self.check((arity, ()), (None, "arity"))
            self.check((arity, [5]), (None, "arity"))
            self.check((arity, ((1, 0), 7)), (None, "arity"))

    def test_rows(self):
        for rows in ([], [(0, 1)], None, 0, "01", {}, {(0, 1): 1}):
            self.check((2, rows), (None, "rows"))

    def test_row(self):
        wrong = ((0,), (0, 1, 0), (), (0, 2), (-1, 0), (True, 0), (0, False), [0, 1], "01", None, 1, {0: 1}, ("0", "1"),
                 ((0, 1), (1, 0)), (0, None), (0, 10 ** 39))
        for row in wrong:
            self.check((2, (row,)), (0, "row"))
            self.check((2, ((0, 0), row)), (1, "row"))
            self.check((2, ((0, 0), (0, 1), row, (0, 0))), (2, "row"))

    def test_order(self):
        self.check((2, ((0, 1), (0, 1))), (1, "order"))
        self.check((2, ((0, 1), (0, 0))), (1, "order"))
        self.check((2, ((0, 0), (1, 0), (0, 1), (0, 1))), (2, "order"))
        self.check((1, ((1,), (0,))), (1, "order"))
        self.check((1, ((0,), (1,), (1,))), (2, "order"))

    def test_first_wrong_item(self):
        self.check((2, ((1, 0), (0, 1), (0, 2))), (1, "order"))
        self.check((2, ((1, 0), (0, 2), (0, 1))), (1, "row"))
        self.check((2, ((1, 0), (0, True))), (1, "row"))
        self.check((2, ((1, 0), (0, 1, 1))), (1, "row"))


class Stocks(unittest.TestCase):
    def check(self, value, error):
        before = copy.deepcopy(value)
        told = stock_error(value)
        self.assertTrue(plain.same(told, error), (value, told, error))
        self.assertTrue(plain.same(value, before))

    def test_numbers_of_relations(self):
        self.check((), (None, "stock"))
        for many in range(1, 7):
            self.check((X,) * many, None)
        self.check((X,) * 7, (None, "stock"))
        self.check((None,) * 7, (None, "stock"))

    def test_numbers_of_rows(self):
        for many, error in ((0, (1, "relation")), (1, None), (12, None), (13, (1, "relation")), (32, (1, "relation"))):
            self.check((X, first_rows(5, many)), error)
        self.check((first_rows(4, 12), first_rows(4, 13)), (1, "relation"))

    def test_no_tuple(self):
        for value in ODD_VALUES:
            if not isinstance(value, tuple):
                self.check(value, (None, "stock"))
        self.check([X], (None, "stock"))
        self.check({0: X}, (None, "stock"))

    def test_first_wrong_relation(self):
        for value in ODD_VALUES + ((6, ((0,) * 6,)), (2, ((1, 0), (0, 1))), (2, [(0, 1)]), [2, ((0, 1),)], (True, ((0,),))):
            if relation_error(value) is None:
                continue
            self.check((value,), (0, "relation"))
            self.check((X, value, value), (1, "relation"))
            self.check((X, X, X, X, X, value), (5, "relation"))


class Cases(unittest.TestCase):
    def check(self, value, error):
        before = copy.deepcopy(value)
        told = case_error(value)
        self.assertTrue(plain.same(told, error), (value, told, error))
        self.assertTrue(plain.same(value, before))

    def test_good(self):
        self.check(C, None)
        self.check(((ANY,), 1, ()), None)
        self.check(((X, FIVE[:1] + (FIVE[1][:12],)), 40, ((1, (39, 39, 0, 1, 2)), (0, (39, 0)))), None)
        self.check(((X, X), 2, ((1, (0, 1)), (0, (0, 0)), (1, (0, 1)))), None)

    def test_no_triple(self):
        for value in ODD_VALUES:
            if not (isinstance(value, tuple) and len(value) == 3):
                self.check(value, (None, "case"))
        self.check([(X,), 3, ()], (None, "case"))
        self.check(((X,), 3), (None, "case"))
        self.check(((X,), 3, (), ()), (None, "case"))

    def test_stock(self):
        for stock in ((), [X], X, (X, (1, ())), None, (X,) * 7, {}):
            self.check((stock, 3, ()), (None, "stock"))
            self.check((stock, 0, None), (None, "stock"))

    def test_unknowns(self):
        for unknowns in (0, 41, -1, True, False, None, "3", 10 ** 39, [3], (3,)):
            self.check(((X,), unknowns, ()), (None, "unknowns"))
            self.check(((X,), unknowns, []), (None, "unknowns"))
            self.check(((X,), unknowns, (7,)), (None, "unknowns"))
        for unknowns in (1, 2, 39, 40):
            self.check(((X,), unknowns, ()), None)

    def test_facts(self):
        fact = (0, (0, 1))
        for facts in ([], [fact], None, 0, "", {}, (fact,) * 81, (None,) * 81):
            self.check(((X,), 3, facts), (None, "facts"))
        self.check(((X,), 3, (fact,) * 80), None)

    def test_fact(self):
        wrong = (
            (1, (0, 1)), (-1, (0, 1)), (True, (0, 1)), (False, (0, 1)), (None, (0, 1)), ("0", (0, 1)), ((), (0, 1)),
            (10 ** 39, (0, 1)), (0, (0, 3)), (0, (-1, 0)), (0, (0,)), (0, (0, 1, 2)), (0, ()), (0, [0, 1]),
            (0, (True, 0)), (0, (0, False)), (0, (0, None)), (0, "01"), (0, 1), (0,), (0, (0, 1), 0), [0, (0, 1)],
            (0, (0, (1,))), None, 0, (), "fact", {}, (0, {0: 0, 1: 1}), (0, (0, 10 ** 39)),
        )
        for fact in wrong:
            self.check(((X,), 3, (fact,)), (0, "fact"))
            self.check(((X,), 3, ((0, (0, 1)), fact, None)), (1, "fact"))
        self.check(((X, ANY), 3, ((1, (0,)), (1, (0, 1)))), (1, "fact"))
        self.check(((X, ANY), 40, ((0, (39, 0)), (1, (40,)))), (1, "fact"))
        self.check(((X,), 3, ((0, (0, 1)),) * 79 + ((0, (0, 3)),)), (79, "fact"))

    def test_something_otherwise(self):
        # Whatever is put otherwise in a case: it is one only if all of it is in its form.
        chance = plain.chance_of(5)
        case = ((X, ANY), 3, ((0, (0, 1)), (1, (2,))))
        for _ in range(3000):
            value = plain.replaced(case, chance)
            self.assertEqual(case_error(value) is None, is_case(value), value)


def is_integer(value, low, high):
    return type(value) is int and low <= value <= high


def is_relation(value):
    if type(value) is not tuple or len(value) != 2 or not is_integer(value[0], 1, 5) or type(value[1]) is not tuple:
        return False
    rows = value[1]
    for row in rows:
        if type(row) is not tuple or len(row) != value[0] or not all(is_integer(item, 0, 1) for item in row):
            return False
    return list(rows) == sorted(set(rows)) and 1 <= len(rows) <= 12


def is_case(value):
    if type(value) is not tuple or len(value) != 3 or type(value[0]) is not tuple or not 1 <= len(value[0]) <= 6:
        return False
    stock, unknowns, facts = value
    if not all(is_relation(relation) for relation in stock):
        return False
    if not is_integer(unknowns, 1, 40) or type(facts) is not tuple or len(facts) > 80:
        return False
    for fact in facts:
        if type(fact) is not tuple or len(fact) != 2 or not is_integer(fact[0], 0, len(stock) - 1):
            return False
        if type(fact[1]) is not tuple or len(fact[1]) != stock[fact[0]][0]:
            return False
        if not all(is_integer(place, 0, unknowns - 1) for place in fact[1]):
            return False
    return True


class Rows(unittest.TestCase):
    def test_rows(self):
        for many in range(5):
            for row in plain.all_rows(many):
                self.assertIs(is_row(row, many), True)
                self.assertIs(is_row(row, many + 1), False)
                self.assertIs(is_row(list(row), many), False)
                if many > 0:
                    self.assertIs(is_row(row, many - 1), False)
        self.assertIs(is_row((), 0), True)
        self.assertIs(is_row((1,) * 2000, 2000), True)

    def test_no_rows(self):
        for value in ((0, True), (False, 0), (0, 2), (-1, 0), [0, 1], "01", None, {0: 0, 1: 1}, (0, None), ((0,), (1,)), 1):
            self.assertIs(is_row(value, 2), False)
        for value in ODD_VALUES:
            self.assertIs(is_row(value, 40), False)
        for value in ([], "", {}, None, False, 0):
            self.assertIs(is_row(value, 0), False)


class Answers(unittest.TestCase):
    def test_all_rows(self):
        chance = plain.chance_of(1)
        for _ in range(60):
            stock = plain.some_stock(chance)
            case = plain.some_case(chance, stock, chance.randint(1, 5), 6)
            good = plain.answers(case)
            for row in plain.all_rows(case[1]):
                self.assertIs(is_answer(case, row), row in good)

    def test_one_unknown_several_times(self):
        self.assertIs(is_answer(((X,), 1, ((0, (0, 0)),)), (0,)), False)
        self.assertIs(is_answer((((2, ((0, 0),)),), 1, ((0, (0, 0)),)), (0,)), True)

    def test_order_of_unknowns(self):
        up = (2, ((0, 0), (0, 1), (1, 1)))
        self.assertIs(is_answer(((up,), 2, ((0, (1, 0)),)), (0, 1)), False)
        self.assertIs(is_answer(((up,), 2, ((0, (1, 0)),)), (1, 0)), True)

    def test_other_values(self):
        for value in ODD_VALUES + ([0, 1, 0], (0, 1), (0, 1, 0, 0), (False, True, False), (0, 1, False), (0, 1, 2), ((0, 1, 0),)):
            self.assertIs(is_answer(C, value), False)
        self.assertIs(is_answer(((X,), 3, ()), (0, 0, 0)), True)
        self.assertIs(is_answer(((X,), 3, ()), [0, 0, 0]), False)


if __name__ == "__main__":
    unittest.main()
