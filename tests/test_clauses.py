"""[C1] and [C2]: clauses."""

import copy
import itertools
import unittest

import plain
from plain import EXAMPLES, ODD_VALUES
from sixkeepers.clauses import case_clauses, clause_error, fewest, form, holds_clause, is_within, primes, said, says
from sixkeepers.keepers import keeps

R, E = (2, ((0, 1), (1, 0), (1, 1))), (2, ((0, 0), (1, 1)))
WORDS = ("both", "either", "most")
SHAPES = {
    "any": lambda clause: True,
    "both": lambda clause: len(clause[0]) <= 1,
    "either": lambda clause: len(clause[1]) <= 1,
    "most": lambda clause: len(clause[0] + clause[1]) <= 2,
}


def plain_primes(relation):
    holding = [
        clause for clause in plain.all_clauses(relation[0])
        if all(plain.holds_clause(clause, row) for row in relation[1])
    ]
    return tuple(
        clause for clause in holding if not any(plain.within(other, clause) and other != clause for other in holding)
    )


def plain_fewest(relation):
    """How many clauses it takes, by going through all lots of prime clauses."""
    clauses = plain_primes(relation)
    rows = plain.all_rows(relation[0])
    wanted = set(rows) - set(relation[1])
    barred = [{row for row in rows if not plain.holds_clause(clause, row)} for clause in clauses]
    for many in range(len(clauses) + 1):
        for some in itertools.combinations(barred, many):
            if set().union(*some) == wanted:
                return many
    raise AssertionError("the prime clauses say the relation")


def some_relations(chance):
    for arity in (1, 2, 3):
        yield from plain.all_relations(arity)
    for arity, many in ((4, 150), (5, 60)):
        for _ in range(many):
            yield plain.some_relation(chance, arity)
        yield (arity, ())
        yield (arity, tuple(plain.all_rows(arity)))


class Examples(unittest.TestCase):
    def test_examples(self):
        told = [
            clause_error(2, ((0,), (1,))), clause_error(2, ((0,), (0,))), clause_error(2, ((2,), ())),
            holds_clause(((0,), (1,)), (0, 1)), is_within(((0,), ()), ((0, 1), ())),
        ]
        self.assertEqual(told, [None, "twice", "clause", False, True])
        told = [primes(R), primes(E), primes((1, ())), primes((1, ((0,), (1,))))]
        self.assertEqual(told, [(((0, 1), ()),), (((0,), (1,)), ((1,), (0,))), (((), ()),), ()])
        told = [
            form(R, "both"), form(R, "either"), said(2, (((0,), ()),)), says(E, (((1,), (0,)), ((0,), (1,)))),
            len(fewest((3, ((0, 0, 0), (1, 1, 1))))),
        ]
        self.assertEqual(told, [(), (((0, 1), ()),), (2, ((1, 0), (1, 1))), True, 3])


class ClauseError(unittest.TestCase):
    def test_right_ones(self):
        for many in range(1, 41):
            for clause in (
                ((), ()), ((0,), ()), ((), (0,)), ((many - 1,), ()), (tuple(range(many)), ()), ((), tuple(range(many))),
                (tuple(range(0, many, 2)), tuple(range(1, many, 2))),
            ):
                self.assertIsNone(clause_error(many, clause), (many, clause))
        for many in (1, 2, 3):
            for clause in plain.all_clauses(many):
                self.assertIsNone(clause_error(many, clause))

    def test_twice(self):
        for many in range(1, 41):
            self.assertEqual(clause_error(many, ((many - 1,), (many - 1,))), "twice")
            self.assertEqual(clause_error(many, (tuple(range(many)), (0,))), "twice")
        self.assertEqual(clause_error(40, ((1, 5, 39), (0, 2, 5))), "twice")

    def test_wrong_ones(self):
        for many in range(1, 41):
            for value in (
                ((many,), ()), ((), (many,)), ((-1,), ()), ((), (-1, 0)), ((0, 0), ()), ((), (0, 0)), ([0], ()),
                ((0,), []),
                [(0,), ()], ((0,),), ((0,), (), ()), ((False,), ()), ((), (False,)), (("0",), ()), ((None,), ()),
                (0, 0),
                ((10 ** 39,), ()), (((0,),), ()), ({0: 0}, ()), ("", ""), ((), None),
            ):
                self.assertEqual(clause_error(many, value), "clause", (many, value))
        for value in (((1, 0), ()), ((), (2, 1)), ((0, 2, 2), ()), ((True,), ()), ((0,), (True,)), ((1, 0), (0,)),
            ((0,), (True, 0))):
            self.assertEqual(clause_error(3, value), "clause", value)
        for value in ODD_VALUES:
            if value != ((), ()):
                self.assertEqual(clause_error(40, value), "clause", value)

    def test_bent(self):
        chance = plain.chance_of(41)
        good = set(plain.all_clauses(4))
        for _ in range(3000):
            clause = plain.replaced(chance.choice(sorted(good)), chance)
            told = clause_error(4, clause)
            right = any(plain.same(clause, other) for other in good)
            self.assertEqual(told is None, right, clause)
            self.assertIn(told, (None, "clause", "twice"))


class Plain(unittest.TestCase):
    def test_holds_and_within(self):
        for many in (1, 2, 3):
            for clause in plain.all_clauses(many):
                for row in plain.all_rows(many):
                    self.assertIs(holds_clause(clause, row), plain.holds_clause(clause, row))
                for other in plain.all_clauses(many):
                    self.assertIs(is_within(clause, other), plain.within(clause, other))

    def test_holds_at_forty(self):
        chance = plain.chance_of(42)
        for _ in range(300):
            clause = plain.some_clause(chance, 40, 5)
            row = tuple(chance.randint(0, 1) for _ in range(40))
            self.assertIs(holds_clause(clause, row), plain.holds_clause(clause, row))

    def test_said(self):
        chance = plain.chance_of(43)
        for arity in range(1, 6):
            self.assertEqual(said(arity, ()), (arity, tuple(plain.all_rows(arity))))
            self.assertEqual(said(arity, (((), ()),)), (arity, ()))
            for _ in range(60):
                clauses = tuple(plain.some_clause(chance, arity) for _ in range(chance.randint(0, 7)))
                clauses = clauses + clauses[:1]
                told = said(arity, clauses)
                self.assertTrue(plain.same(told, (arity, plain.clauses_rows(arity, clauses))))
                self.assertEqual(said(arity, clauses[::-1]), told)

    def test_primes_and_forms(self):
        for relation in some_relations(plain.chance_of(44)):
            good = plain_primes(relation)
            self.assertTrue(plain.same(primes(relation), good), relation)
            self.assertEqual(said(relation[0], good), relation)
            for word in WORDS:
                told = form(relation, word)
                self.assertEqual(told, tuple(clause for clause in good if SHAPES[word](clause)))

    def test_forms_say_the_least(self):
        chance = plain.chance_of(45)
        for relation in some_relations(chance):
            if relation[0] > 2 and chance.random() < 0.5:
                continue
            for word in WORDS:
                around = plain.hull(relation, (plain.SIX[word],))
                told = said(relation[0], form(relation, word))
                self.assertEqual(told, around, (relation, word))
                self.assertEqual(told == relation, keeps(plain.SIX[word], relation))

    def test_edges(self):
        for arity in range(1, 6):
            self.assertEqual(primes((arity, ())), (((), ()),))
            self.assertEqual(primes((arity, tuple(plain.all_rows(arity)))), ())
            self.assertEqual(fewest((arity, ())), (((), ()),))
            self.assertEqual(fewest((arity, tuple(plain.all_rows(arity)))), ())

    def test_nothing_is_changed(self):
        given = ((3, ((0, 0, 1), (1, 0, 0))), (((0,), (1,)), ((), (2,))))
        before = copy.deepcopy(given)
        for _ in range(2):
            told = (primes(given[0]), form(given[0], "most"), fewest(given[0]), said(3, given[1]),
                says(given[0], given[1]))
            self.assertEqual(told, (primes(given[0]), form(given[0], "most"), fewest(given[0]), said(3, given[1]),
                False))
        self.assertTrue(plain.same(given, before))


class Says(unittest.TestCase):
    def test_right_values(self):
        chance = plain.chance_of(46)
        for relation in some_relations(chance):
            if chance.random() < 0.6:
                continue
            clauses = list(primes(relation))
            self.assertIs(says(relation, tuple(clauses)), True)
            wider = [clause for clause in plain.all_clauses(relation[0]) if clause not in clauses and any(
                plain.within(one, clause) for one in clauses
            )]
            clauses += chance.sample(wider, min(len(wider), 3)) + clauses[:2]
            chance.shuffle(clauses)
            self.assertIs(says(relation, tuple(clauses)), True)
            self.assertIs(says(relation, clauses), False)
            self.assertIs(says(relation, fewest(relation)), True)

    def test_any_clauses(self):
        chance = plain.chance_of(47)
        for _ in range(600):
            arity = chance.randint(1, 3)
            clauses = tuple(plain.some_clause(chance, arity) for _ in range(chance.randint(0, 4)))
            relation = chance.choice(((arity, plain.clauses_rows(arity, clauses)), plain.some_relation(chance, arity)))
            self.assertIs(says(relation, clauses), plain.clauses_rows(arity, clauses) == relation[1])

    def test_bent(self):
        chance = plain.chance_of(48)
        for _ in range(2500):
            relation = plain.some_relation(chance, chance.randint(1, 4), 1)
            value = plain.replaced(primes(relation), chance)
            right = isinstance(value, tuple) and all(
                any(plain.same(clause, other) for other in plain.all_clauses(relation[0])) for clause in value
            )
            right = right and plain.clauses_rows(relation[0], value) == relation[1]
            self.assertIs(says(relation, value), right, (relation, value))

    def test_other_values(self):
        for value in ODD_VALUES:
            self.assertIs(says((1, ((0,),)), value), False)
            self.assertIs(says((1, ((0,), (1,))), value), value == () and isinstance(value, tuple))
        self.assertIs(says((1, ((1,),)), (((0,), ()),)), True)
        self.assertIs(says((1, ((1,),)), (((False,), ()),)), False)
        self.assertIs(says((1, ((1,),)), (((0,), ()), ((1,), ()))), False)


class Fewest(unittest.TestCase):
    def check(self, relation):
        told = fewest(relation)
        self.assertTrue(all(clause_error(relation[0], clause) is None for clause in told))
        self.assertEqual(told, tuple(sorted(set(told))))
        self.assertEqual(plain.clauses_rows(relation[0], told), relation[1])
        return told

    def test_small(self):
        for arity in (1, 2, 3):
            for relation in plain.all_relations(arity):
                self.assertEqual(len(self.check(relation)), plain_fewest(relation), relation)

    def test_four_places(self):
        chance = plain.chance_of(49)
        for _ in range(120):
            relation = plain.some_relation(chance, 4, 0, 16)
            self.assertEqual(len(self.check(relation)), plain_fewest(relation), relation)
            self.assertEqual(fewest(relation), fewest(relation))
        odd = (4, tuple(row for row in plain.all_rows(4) if sum(row) % 2 == 1))
        self.assertEqual(len(self.check(odd)), 8)


def plain_case_clauses(case, word):
    found = set()
    for index, places in case[2]:
        for clause in plain_primes(case[0][index]):
            if SHAPES[word](clause):
                yes, no = [{places[place] for place in part} for part in clause]
                if not yes & no:
                    found.add((tuple(sorted(yes)), tuple(sorted(no))))
    return tuple(sorted(found))


class CaseClauses(unittest.TestCase):
    def test_words(self):
        case = ((R, E), 3, ((0, (0, 1)), (0, (1, 0)), (0, (2, 2)), (1, (2, 2)), (1, (1, 2))))
        self.assertEqual(case_clauses(case, "any"), (((0, 1), ()), ((1,), (2,)), ((2,), ()), ((2,), (1,))))
        self.assertEqual(case_clauses(case, "both"), (((1,), (2,)), ((2,), (1,))))
        self.assertEqual(case_clauses(case, "either"), case_clauses(case, "any"))
        self.assertEqual(case_clauses(case, "most"), case_clauses(case, "any"))
        self.assertEqual(case_clauses((case[0], 3, ()), "any"), ())
        twice = ((EXAMPLES["X"],), 1, ((0, (0, 0)),))
        self.assertEqual(case_clauses(twice, "any"), (((), (0,)), ((0,), ())))

    def test_any_against_answers(self):
        chance = plain.chance_of(50)
        for _ in range(150):
            case = plain.some_case(chance, plain.some_stock(chance, (1, 2, 3, 4)), chance.randint(1, 6), 5)
            case = case[:2] + (case[2] + case[2][:1],)
            told = case_clauses(case, "any")
            self.assertTrue(plain.same(told, plain_case_clauses(case, "any")))
            self.assertEqual(list(plain.clauses_rows(case[1], told)), plain.answers(case))

    def test_words_that_keep(self):
        chance = plain.chance_of(51)
        for word in WORDS:
            for _ in range(80):
                stock = plain.kept_stock(chance, (word,))
                case = plain.some_case(chance, stock, chance.randint(1, 6), 6)
                told = case_clauses(case, word)
                self.assertEqual(told, plain_case_clauses(case, word))
                self.assertTrue(all(SHAPES[word](clause) for clause in told))
                self.assertEqual(list(plain.clauses_rows(case[1], told)), plain.answers(case))

    def test_great(self):
        chance = plain.chance_of(52)
        for word in SHAPES:
            for _ in range(4):
                stock = plain.some_stock(chance, (2, 3, 4), 4)
                facts = tuple(plain.some_fact(chance, stock, 40) for _ in range(76))
                case = (stock, 40, facts + facts[:4])
                before = copy.deepcopy(case)
                told = case_clauses(case, word)
                self.assertTrue(plain.same(told, plain_case_clauses(case, word)))
                self.assertEqual(case_clauses(case, word), told)
                self.assertTrue(plain.same(case, before))
                row = tuple(chance.randint(0, 1) for _ in range(40))
                if word == "any":
                    self.assertEqual(all(holds_clause(one, row) for one in told), plain.holds(stock, facts, row))


if __name__ == "__main__":
    unittest.main()
