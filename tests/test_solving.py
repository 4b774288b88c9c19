"""[D2] and [D3]: answers and refutations."""

import copy
import itertools
import unittest

import plain
from plain import EXAMPLES, FIRM, HIGH_ONLY, LOW_ONLY, NO_WAY, ODD_VALUES
from sixkeepers.errors import TooHard
from sixkeepers.forms import is_answer
from sixkeepers.keepers import kept_by, way
from sixkeepers.solving import answer, answer_with, greatest_answer, least_answer, refute, refutes

X, I, T = EXAMPLES["X"], EXAMPLES["I"], EXAMPLES["T"]
C = ((X,), 3, ((0, (0, 1)), (0, (1, 2))))
D = ((X,), 3, C[2] + ((0, (0, 2)),))
ONE = (1, ((1,),))
KINDS = [("low",), ("high",), ("both",), ("either",), ("most",), ("odd",), ("both", "either"), ("most", "odd"),
    ("low", "high"), ("both", "most")]


def some_stocks(chance):
    """Stocks of all kinds: kept by each of the six, by several, by none."""
    for words in KINDS:
        yield plain.kept_stock(chance, words)
    yield plain.some_stock(chance, (1, 2, 3, 4, 5))
    yield plain.some_stock(chance, (2, 3)) + NO_WAY


def right_form(case, value):
    """Whether the value has the form of a refutation, with integers where they belong."""
    many = len(case[2])
    if not isinstance(value, tuple) or len(value) < 2 or not isinstance(value[0], str):
        return False
    if value[0] == "clash" and len(value) == 3:
        steps, end = value[1:]
        if not isinstance(steps, tuple) or type(end) is not int or not 0 <= end < many:
            return False
        return all(
            isinstance(step, tuple) and len(step) == 3 and all(type(item) is int for item in step)
            and 0 <= step[0] < many for step in steps
        )
    if value[0] == "split" and len(value) == 4:
        right = type(value[1]) is int and 0 <= value[1] < case[1]
        return right and right_form(case, value[2]) and right_form(case, value[3])
    if value[0] == "sums" and len(value) == 2 and isinstance(value[1], tuple):
        return all(right_item(case, item) for item in value[1])
    return False


def right_item(case, item):
    if not isinstance(item, tuple) or len(item) != 2 or type(item[0]) is not int or not 0 <= item[0] < len(case[2]):
        return False
    one = item[1]
    if not isinstance(one, tuple) or len(one) != 2 or type(one[1]) is not int or one[1] not in (0, 1):
        return False
    if not isinstance(one[0], tuple) or any(type(place) is not int for place in one[0]):
        return False
    return list(one[0]) == sorted(set(one[0])) and set(one[0]) <= set(case[2][item[0]][1])


def planted(chance, stock, unknowns, many, row):
    """A case of which the row is an answer."""
    facts = []
    for _ in range(200 * many):
        fact = plain.some_fact(chance, stock, unknowns)
        if plain.holds(stock, (fact,), row) and len(facts) < many:
            facts.append(fact)
    return (stock, unknowns, tuple(facts))


class Answers(unittest.TestCase):
    def check(self, case, good=None):
        before = copy.deepcopy(case)
        row, paper = answer(case), refute(case)
        self.assertEqual((row is None, paper is None), (paper is not None, row is not None))
        if row is not None:
            self.assertIs(is_answer(case, row), True)
            self.assertTrue(plain.holds(case[0], case[2], row))
        else:
            self.assertIs(refutes(case, paper), True)
            self.assertTrue(right_form(case, paper) and plain.is_refutation(case, paper), paper)
        if good is not None:
            self.assertEqual(row is not None, good != [])
        self.assertEqual((answer(case), refute(case)), (row, paper))
        self.assertTrue(plain.same(case, before))
        return row is not None

    def test_examples(self):
        told = [is_answer(C, answer(C)), refute(C), answer(D), refutes(D, refute(D)), refutes(D, None),
            refutes(C, ("clash", (), 0))]
        self.assertEqual(told, [True, None, None, True, False, False])
        right = ("clash", ((0, 1, 1), (1, 2, 0)), 2)
        told = [
            refutes(D, ("split", 0, right, ("clash", ((0, 1, 0),), 2))),
            refutes(D, ("split", 0, right, ("clash", ((0, 1, 0), (2, 2, 0)), 1))),
            refutes(D, ("sums", ((0, ((0, 1), 1)), (1, ((1, 2), 1)), (2, ((0, 2), 1))))),
        ]
        self.assertEqual(told, [False, True, True])
        with self.assertRaises(TooHard) as caught:
            answer(((T,), 15, ()))
        self.assertEqual(caught.exception.size, 15)

    def test_stocks_by_one_way_alone(self):
        self.assertEqual([kept_by(NO_WAY), kept_by(LOW_ONLY), kept_by(HIGH_ONLY)], [(), ("low",), ("high",)])
        self.assertEqual([kept_by(plain.TYPICAL[word]) for word in FIRM], [(word,) for word in FIRM])

    def test_low_and_high(self):
        # Following tells nothing of the first unknown, though it can have but one value.
        for row, stock in (((1,), ((3, ((0, 0, 1), (0, 1, 0), (1, 1, 1))),)),
            ((0,), ((3, ((0, 0, 0), (1, 0, 1), (1, 1, 0))),))):
            for unknowns in (4, 14, 15, 40):
                case = (stock, unknowns, ((0, (0, 1, 2)), (0, (0, 2, 3)), (0, (0, 1, 3))))
                self.assertTrue(self.check(case))
                self.assertEqual(answer(case)[:4], row * 4)

    def test_small(self):
        chance = plain.chance_of(101)
        both = []
        for _ in range(60):
            for stock in some_stocks(chance):
                case = plain.some_case(chance, stock, chance.randint(1, 7), chance.choice((3, 6, 14)))
                both.append(self.check(case, plain.answers(case)))
        self.assertTrue(min(both.count(True), both.count(False)) > 150)

    def test_without_a_way(self):
        chance = plain.chance_of(102)
        both = []
        for _ in range(60):
            stock = NO_WAY + plain.some_stock(chance, (2, 3, 3, 4), 3)
            case = plain.some_case(chance, stock, chance.randint(8, 14), chance.choice((10, 20, 80)))
            both.append(self.check(case))
        self.assertTrue(min(both.count(True), both.count(False)) > 8)

    def test_sums_without_a_way(self):
        # Facts by which following tells little till nearly all is known.
        chance = plain.chance_of(103)
        odd = [(4, tuple(row for row in plain.all_rows(4) if sum(row) % 2 == item)) for item in (0, 1)]
        for _ in range(8):
            row = tuple(chance.randint(0, 1) for _ in range(14))
            facts = []
            for _ in range(24):
                places = tuple(chance.sample(range(14), 4))
                facts.append((sum(row[k] for k in places) % 2, places))
            self.assertTrue(self.check((tuple(odd) + NO_WAY, 14, tuple(facts))))
            facts[-1] = (1 - facts[-1][0], facts[-1][1])
            self.check((tuple(odd) + NO_WAY, 14, tuple(facts)))

    def test_too_hard(self):
        for function in (answer, refute):
            for unknowns in (15, 16, 40):
                for stock in (NO_WAY, NO_WAY + (X,), (X, (1, ((0,),)), T)):
                    for facts in ((), ((0, (0,) * stock[0][0]),)):
                        with self.assertRaises(TooHard) as caught:
                            function((stock, unknowns, facts))
                        self.assertEqual(vars(caught.exception), {"size": unknowns})
            function((NO_WAY, 14, ()))
            for stock in ((X,), (I,), LOW_ONLY, HIGH_ONLY, ((2, ((0, 0), (0, 1), (1, 0))),)):
                function((stock, 40, ()))

    def test_no_facts(self):
        for stock in (NO_WAY, (X,), (I, ONE), LOW_ONLY, HIGH_ONLY):
            for unknowns in (1, 14):
                self.assertTrue(self.check((stock, unknowns, ())))

    def test_great(self):
        chance = plain.chance_of(104)
        seen = {}
        for words in KINDS:
            for _ in range(8):
                stock = plain.kept_stock(chance, words, (2, 3, 3, 4, 5))
                many = chance.choice((20, 40, 80))
                cases = [plain.some_case(chance, stock, 40, 80),
                    (stock, 40, tuple(plain.some_fact(chance, stock, 40) for _ in range(80)))]
                start = answer(plain.some_case(chance, stock, 40, 5))
                if start is not None:
                    cases.append(planted(chance, stock, 40, many, start))
                for case in cases:
                    seen.setdefault(words, []).append(self.check(case))
        for word in FIRM:
            self.assertEqual(set(seen[(word,)]), {True, False}, word)
        self.assertEqual(set(seen[("low",)] + seen[("high",)]), {True})

    def test_little_is_told(self):
        chance = plain.chance_of(105)
        for word, least, most in (("both", 60, 80), ("either", 60, 80), ("most", 30, 80), ("odd", 30, 46)):
            stock = plain.TYPICAL[word]
            both = []
            for _ in range(60):
                facts = []
                for _ in range(chance.randint(least, most)):
                    index = chance.randrange(len(stock)) if chance.random() < 0.3 else chance.randrange(min(4,
                        len(stock)))
                    facts.append((index, tuple(chance.sample(range(40), stock[index][0]))))
                both.append(self.check((stock, 40, tuple(facts))))
            self.assertTrue(min(both.count(True), both.count(False)) > 5, (word, both.count(True)))


class Refutes(unittest.TestCase):
    def test_clash(self):
        case = ((I, ONE, (1, ((0,),))), 3, ((1, (0,)), (0, (0, 1)), (0, (1, 2)), (2, (2,))))
        steps = ((0, 0, 1), (1, 1, 1), (2, 2, 1))
        self.assertIs(refutes(case, ("clash", steps, 3)), True)
        self.assertIs(refutes(case, ("clash", ((3, 2, 0), (2, 1, 0), (1, 0, 0)), 0)), True)
        self.assertIs(refutes(case, ("clash", ((0, 0, 1), (3, 2, 0), (1, 1, 1)), 2)), True)
        for value in (
            ("clash", steps, 2), ("clash", steps, None), ("clash", steps[:2], 3), ("clash", steps[::-1], 3),
            ("clash", list(steps), 3),
            ("clash", steps), ("clash", steps, 3, 0), ["clash", steps, 3], ("clash", steps, True), ("chain", steps, 3),
            ("clash", ((0, 0, True),) + steps[1:], 3), ("clash", ((0, False, 1),) + steps[1:], 3), ("clash", (), 3),
            ("clash", steps + ((3, 2, 0),), 2), ("clash", steps + steps[:1], 3), (steps, 3),
            ("clash", steps, 10 ** 70), ("clash",), (),
        ):
            self.assertIs(refutes(case, value), False, value)

    def test_split(self):
        zero, one = ("clash", ((0, 1, 1), (1, 2, 0)), 2), ("clash", ((0, 1, 0), (2, 2, 0)), 1)
        self.assertIs(refutes(D, ("split", 0, zero, one)), True)
        inner = ("split", 1, ("clash", (), 0), ("clash", ((1, 2, 0),), 2))
        self.assertIs(refutes(D, ("split", 0, inner, one)), True)
        for value in (
            ("split", 0, one, zero), ("split", 1, zero, one), ("split", False, zero, one), ("split", -3, zero, one),
            ("split", 3, zero, one),
            ("split", 0, zero), ("split", 0, zero, one, one), ("split", 0, zero, None), ["split", 0, zero, one],
            ("split", "0", zero, one),
            ("split", None, zero, one), ("split", (0,), zero, one), ("split", 0, ("split", 0, zero, one), one),
            ("split", 0, zero, ()),
            ("split", 0, ("split", 1, inner[3], inner[2]), one), zero, one, ("split", 0, zero, list(one)),
            ("split", 10 ** 70, zero, one),
        ):
            self.assertIs(refutes(D, value), False, value)
        # What is split twice is known already, even if it is right all the same.
        case = ((X,), 2, ((0, (0, 0)),))
        clash = ("clash", (), 0)
        self.assertIs(refutes(case, ("split", 1, clash, clash)), True)
        self.assertIs(refutes(case, ("split", 1, ("split", 1, clash, clash), clash)), False)
        self.assertIs(refutes(case, ("split", 1, clash, ("split", 1, clash, clash))), False)
        self.assertIs(refutes(case, ("split", 1, clash, ("split", 0, clash, clash))), True)

    def test_sums(self):
        items = ((0, ((0, 1), 1)), (1, ((1, 2), 1)), (2, ((0, 2), 1)))
        for right in (items, items[::-1], items + ((0, ((0, 1), 1)),) * 2, items + ((1, ((), 0)),)):
            self.assertIs(refutes(D, ("sums", right)), True)
            self.assertIs(refutes(D, ("split", 2, ("sums", right), ("split", 0, ("sums", right), ("sums", right)))),
                True)
        for wrong in (
            (), items[:2], items + items[:1], list(items), items[:2] + ((2, ((0, 2), 0)),),
            items[:2] + ((2, ((2, 0), 1)),),
            items[:2] + ((1, ((0, 2), 1)),), items[:2] + ((2, ((0, 2), True)),), items[:2] + ((True, ((0, 2), 1)),),
            items + (None,),
            items[:2] + ((3, ((0, 2), 1)),), items[:2] + ((-1, ((0, 2), 1)),), items[:2] + ((2, ((False, 2), 1)),),
            (items,),
            items[:2] + ([2, ((0, 2), 1)],), items[:2] + ((2, [(0, 2), 1]),), ((0, ((), 1)),),
            ((0, ((0,), 1)), (1, ((0,), 0))),
            items[:2] + ((2, ((0, 2), 1), 0),), items[:2] + ((2, ((0, 10 ** 50), 1)),), "sums", {},
        ):
            self.assertIs(refutes(D, ("sums", wrong)), False, wrong)
        self.assertIs(refutes(D, ("sums",)), False)
        self.assertIs(refutes(D, ("sums", items, ())), False)
        self.assertIs(refutes(C, ("sums", items[:2])), False)

    def test_sums_of_the_unknowns(self):
        # The unknown stands twice, so just the rows with one value at both places count.
        case = ((T,), 2, ((0, (0, 0, 1)), (0, (1, 1, 0))))
        self.assertIs(refutes(case, ("sums", ((0, ((0,), 0)), (0, ((1,), 1)), (1, ((0, 1), 0))))), False)
        self.assertIs(refutes(case, ("sums", ((0, ((0,), 0)), (1, ((0,), 1))))), True)
        self.assertIs(refutes(case, ("sums", ((0, ((0, 1), 1)), (1, ((0,), 1)), (1, ((1,), 0)), (0, ((), 0))))), False)
        # Where no row agrees, every sum of its unknowns holds.
        case = ((X,), 3, ((0, (1, 1)),))
        for one in (((), 1), ):
            self.assertIs(refutes(case, ("sums", ((0, one),))), True)
        self.assertIs(refutes(case, ("sums", ((0, ((1,), 1)), (0, ((1,), 0))))), True)
        self.assertIs(refutes(case, ("sums", ((0, ((1, 2), 1)), (0, ((1, 2), 0))))), False)

    def test_beside_nothing_within_a_split(self):
        # Sums must hold for all rows that agree beside nothing, also within a split.
        case = ((X, ONE), 2, ((0, (0, 1)), (1, (0,)), (1, (1,))))
        self.assertIs(refutes(case, ("split", 0, ("clash", (), 1), ("sums", ((0, ((1,), 0)), (2, ((1,), 1)))))), False)
        self.assertIs(refutes(case, ("split", 0, ("clash", (), 1),
            ("sums", ((0, ((0, 1), 1)), (1, ((0,), 1)), (2, ((1,), 1)))))), True)

    def test_great_cases_without_a_way(self):
        stock = (X, T)
        facts = tuple((0, (k, k + 1)) for k in range(39)) + ((0, (0, 38)),)
        case = (stock, 40, facts)
        items = tuple((k, ((k, k + 1), 1)) for k in range(38)) + ((39, ((0, 38), 1)),)
        self.assertIs(refutes(case, ("sums", items)), True)
        halves = [("clash", tuple((k, k + 1, (k + item + 1) % 2) for k in range(38)), 39) for item in (0, 1)]
        self.assertIs(refutes(case, ("split", 0, halves[0], halves[1])), True)
        self.assertIs(refutes(case, ("split", 0, halves[1], halves[0])), False)
        value = ("sums", items)
        for unknown in range(40):
            value = ("split", unknown, value, ("sums", items))
        self.assertIs(refutes(case, value), True)
        self.assertIs(refutes(case, ("split", 7, value, value)), False)
        self.assertIs(refutes((stock, 40, facts[:-1]), value), False)

    def test_other_values(self):
        for value in ODD_VALUES:
            self.assertIs(refutes(D, value), False)
            for word in ("clash", "split", "sums", value):
                self.assertIs(refutes(D, (word, value)), False)
                self.assertIs(refutes(D, (word, value, value)), False)
                self.assertIs(refutes(D, (word, 0, value, value)), False)
                self.assertIs(refutes(D, (word, (value,))), False)
                self.assertIs(refutes(D, (word, (), value)), False)

    def test_bent(self):
        chance = plain.chance_of(106)
        rights = tries = 0
        while tries < 2500:
            for stock in some_stocks(chance):
                case = plain.some_case(chance, stock, chance.randint(2, 6), 12)
                paper = refute(case)
                if paper is None:
                    continue
                for _ in range(5):
                    tries += 1
                    value = plain.replaced(paper, chance)
                    right = right_form(case, value) and plain.is_refutation(case, value)
                    rights += right
                    self.assertIs(refutes(case, value), right, (case, value))
                    for fact in range(len(case[2])):
                        less = case[:2] + (case[2][:fact] + case[2][fact + 1:],)
                        right = right_form(less, paper) and plain.is_refutation(less, paper)
                        self.assertIs(refutes(less, paper), right)
        self.assertGreater(rights, 20)


class Firm(unittest.TestCase):
    def check(self, case, chance):
        good = plain.answers(case)
        self.assertTrue(plain.same(least_answer(case), min(good, default=None)), case)
        self.assertTrue(plain.same(greatest_answer(case), max(good, default=None)), case)
        for many in (0, 1, 2, case[1]):
            places = sorted(chance.sample(range(case[1]), min(many, case[1])))
            known = tuple((unknown, chance.randint(0, 1)) for unknown in places)
            if good and chance.random() < 0.4:
                known = tuple((unknown, good[-1][unknown]) for unknown in places)
            fit = [row for row in good if all(row[unknown] == value for unknown, value in known)]
            told = answer_with(case, known)
            self.assertTrue(told in fit if fit else told is None, (case, known))
            self.assertEqual(answer_with(case, known), told)

    def test_examples(self):
        told = [answer_with(C, ((1, 1),)), answer_with(C, ((0, 1), (2, 0))), least_answer(C), greatest_answer(C),
            least_answer(D)]
        self.assertEqual(told, [(0, 1, 0), None, (0, 1, 0), (1, 0, 1), None])
        case = ((I, ONE), 3, ((0, (0, 1)), (1, (0,))))
        self.assertEqual([least_answer(case), greatest_answer(case)], [(1, 1, 0), (1, 1, 1)])

    def test_small(self):
        chance = plain.chance_of(107)
        for _ in range(50):
            for stock in some_stocks(chance):
                self.check(plain.some_case(chance, stock, chance.randint(1, 7), chance.choice((3, 6))), chance)

    def test_fourteen_unknowns(self):
        chance = plain.chance_of(108)
        for stock in (NO_WAY + (I,), LOW_ONLY, HIGH_ONLY, NO_WAY):
            self.check(plain.some_case(chance, stock, 14, 12), chance)

    def test_too_hard(self):
        for function in (least_answer, greatest_answer, lambda case: answer_with(case, ((0, 1),))):
            for stock in (LOW_ONLY, HIGH_ONLY, NO_WAY, LOW_ONLY + (I,)):
                for unknowns in (15, 40):
                    with self.assertRaises(TooHard) as caught:
                        function((stock, unknowns, ()))
                    self.assertEqual(caught.exception.size, unknowns)
                function((stock, 14, ()))
            for word in FIRM:
                function((plain.kept_stock(plain.chance_of(3), (word,)), 40, ()))

    def test_great(self):
        chance = plain.chance_of(109)
        for word in FIRM:
            seen = 0
            for _ in range(12):
                stock = plain.kept_stock(chance, (word,), (2, 3, 4))
                start = answer((stock, 40, tuple(plain.some_fact(chance, stock, 40) for _ in range(3))))
                if start is None:
                    continue
                case = planted(chance, stock, 40, chance.choice((20, 80)), start)
                least, greatest = least_answer(case), greatest_answer(case)
                self.assertTrue(is_answer(case, least) and is_answer(case, greatest) and least <= start <= greatest)
                # Each first value that is 1 in the least answer can't be 0, and so on.
                for row, item in ((least, 1), (greatest, 0)):
                    for unknown in chance.sample(range(40), 8):
                        if row[unknown] == item:
                            known = tuple(enumerate(row[:unknown])) + ((unknown, 1 - item),)
                            self.assertIsNone(answer_with(case, known))
                            seen += 1
                known = tuple((unknown, start[unknown]) for unknown in sorted(chance.sample(range(40), 12)))
                told = answer_with(case, known)
                self.assertTrue(is_answer(case, told) and all(told[unknown] == value for unknown, value in known))
            self.assertGreater(seen, 10, word)

    def test_ends_by_both_and_either(self):
        chance = plain.chance_of(110)
        for _ in range(80):
            for word, told, item in (("both", least_answer, 1), ("either", greatest_answer, 0)):
                case = plain.some_case(chance, plain.kept_stock(chance, (word,)), 6, 4)
                good = plain.answers(case)
                if good:
                    forced = tuple(item if all(row[k] == item for row in good) else 1 - item for k in range(6))
                    self.assertEqual(told(case), forced)

    def test_nothing_is_changed(self):
        case = ((I, ONE), 3, ((0, (0, 1)), (1, (0,))))
        before = copy.deepcopy(case)
        told = [[f(case) for f in (answer, refute, least_answer, greatest_answer)] for _ in range(2)]
        self.assertEqual(told[0], told[1])
        self.assertTrue(plain.same(case, before))
        self.assertEqual(way(case[0]), "high")


if __name__ == "__main__":
    unittest.main()
