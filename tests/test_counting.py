"""[F1]: answers counted."""

import copy
import inspect
import itertools
import unittest

import plain
from plain import HIGH_ONLY, LOW_ONLY, NO_WAY, ODD_VALUES
from sixkeepers.counting import answer_at, answers, cheapest, count, farthest, nearest, number_of, spread, yes_counts
from sixkeepers.errors import BadRow, NoNumber, TooHard

R, O = (2, ((0, 1), (1, 0), (1, 1))), (3, ((0, 0, 1), (0, 1, 0), (1, 0, 0), (1, 1, 1)))
A = ((R,), 3, ((0, (0, 1)), (0, (1, 2))))
B = ((O,), 40, ((0, (0, 1, 2)), (0, (2, 3, 4))))
UNLIKE = (2, ((0, 1), (1, 0)))
KINDS = [("low",), ("high",), ("both",), ("either",), ("most",), ("odd",), ("odd",), ("most", "odd")]
WRONG_NUMBERS = tuple(value for value in ODD_VALUES if type(value) is not int) + (-1, -5, 10 ** 39, -(10 ** 39), "1",
    (1,), [1])


def some_cases(chance, count, most):
    for _ in range(count):
        for words in KINDS:
            yield plain.some_case(chance, plain.kept_stock(chance, words), chance.randint(1, most),
                chance.choice((2, 5)))
        yield plain.some_case(chance, plain.some_stock(chance, (1, 2, 3, 4, 5)), chance.randint(1, most), 3)


def unlike(row, other):
    return sum(item != wish for item, wish in zip(row, other))


class Counting(unittest.TestCase):
    def assertTooHard(self, unknowns, function):
        with self.assertRaises(TooHard) as caught:
            function()
        self.assertEqual(vars(caught.exception), {"size": unknowns})

    def check(self, case, good, chance):
        before = copy.deepcopy(case)
        self.assertTrue(plain.same(count(case), len(good)))
        self.assertTrue(plain.same(list(answers(case)), good))
        for number in {0, len(good) - 1, len(good) // 2, chance.randint(0,
            max(0, len(good) - 1))} & set(range(len(good))):
            self.assertTrue(plain.same(answer_at(case, number), good[number]))
            self.assertTrue(plain.same(number_of(case, good[number]), number))
        for number in (len(good), len(good) + 7) + WRONG_NUMBERS:
            with self.assertRaises(NoNumber) as caught:
                answer_at(case, number)
            self.assertTrue(plain.same(caught.exception.number, number))
        self.assertTrue(plain.same(yes_counts(case), tuple(sum(row[k] for row in good) for k in range(case[1]))))
        self.assertTrue(plain.same(case, before))

    def check_small(self, case, good, chance):
        many = case[1]
        self.assertTrue(plain.same(spread(case), tuple(sum(sum(row) == k for row in good) for k in range(many + 1))))
        for row in plain.all_rows(many)[:: max(1, 2 ** many // 16)]:
            self.assertTrue(plain.same(number_of(case, row), good.index(row) if row in good else None))
        for _ in range(4):
            wish = tuple(chance.randint(0, 1) for _ in range(many))
            for told, best in ((nearest(case, wish), min), (farthest(case, wish), max)):
                many_unlike = best((unlike(row, wish) for row in good), default=None)
                right = next(((many_unlike, row) for row in good if unlike(row, wish) == many_unlike), None)
                self.assertTrue(plain.same(told, right))
        for most in (0, 1, 3, 10 ** 40 - 1):
            costs = tuple(chance.randint(-most, most) for _ in range(many))
            priced = [sum(cost for cost, item in zip(costs, row) if item) for row in good]
            right = (min(priced), good[priced.index(min(priced))]) if good else None
            self.assertTrue(plain.same(cheapest(case, costs), right))

    def test_examples(self):
        told = [
            count(A), answer_at(A, 0), answer_at(A, 4), number_of(A, (1, 0, 1)), number_of(A, (0, 0, 1)),
            list(answers(A))[1:3], yes_counts(A), spread(A),
        ]
        self.assertEqual(told, [5, (0, 1, 0), (1, 1, 1), 2, None, [(0, 1, 1), (1, 0, 1)], (3, 4, 3), (0, 1, 3, 1)])
        told = [nearest(A, (0, 0, 0)), nearest(A, (1, 0, 0)), farthest(A, (1, 1, 1)), cheapest(A, (1, 5, 1)),
            cheapest(A, (0, -2, 0))]
        self.assertEqual(told, [(1, (0, 1, 0)), (1, (1, 0, 1)), (2, (0, 1, 0)), (2, (1, 0, 1)), (-2, (0, 1, 0))])
        told = [
            count(B) == 2 ** 38, answer_at(B, 0) == (0, 0, 1, 0, 0) + (0,) * 35, yes_counts(B)[0] == 2 ** 37,
            number_of(B, answer_at(B, 10 ** 9)),
        ]
        self.assertEqual(told, [True, True, True, 1000000000])
        with self.assertRaises(NoNumber) as caught:
            answer_at(A, 5)
        self.assertEqual(vars(caught.exception), {"number": 5})

    def test_small(self):
        chance = plain.chance_of(131)
        nones = 0
        for case in some_cases(chance, 35, 6):
            good = plain.answers(case)
            nones += not good
            self.check(case, good, chance)
            self.check_small(case, good, chance)
        self.assertGreater(nones, 20)

    def test_ten_unknowns(self):
        chance = plain.chance_of(132)
        for case in some_cases(chance, 1, 1):
            case = (case[0], 10, tuple(plain.some_fact(chance, case[0], 10) for _ in range(4)))
            good = plain.answers(case)
            self.check(case, good, chance)
            self.check_small(case, good, chance)

    def test_ties(self):
        free = ((R,), 4, ())
        self.assertEqual(nearest(((UNLIKE,), 2, ((0, (0, 1)),)), (0, 0)), (1, (0, 1)))
        self.assertEqual(farthest(((UNLIKE,), 2, ((0, (0, 1)),)), (1, 1)), (1, (0, 1)))
        self.assertEqual(cheapest(free, (0, 0, 0, 0)), (0, (0, 0, 0, 0)))
        self.assertEqual(cheapest(free, (0, -1, 0, 1)), (-1, (0, 1, 0, 0)))
        self.assertEqual(cheapest(free, (-(10 ** 39), 10 ** 39, 10 ** 39, -1)), (-(10 ** 39) - 1, (1, 0, 0, 1)))
        self.assertEqual(farthest(free, (0, 1, 0, 1)), (4, (1, 0, 1, 0)))

    def test_without_answers(self):
        for stock in ((UNLIKE,), (UNLIKE, R)):
            case = (stock, 4, ((0, (2, 2)),))
            told = [count(case), list(answers(case)), yes_counts(case), spread(case), number_of(case, (0,) * 4)]
            self.assertEqual(told, [0, [], (0,) * 4, (0,) * 5, None])
            self.assertEqual([nearest(case, (0,) * 4), farthest(case, (0,) * 4), cheapest(case, (1,) * 4)], [None] * 3)
            with self.assertRaises(NoNumber):
                answer_at(case, 0)
            for wish in ((0,) * 3, None):
                with self.assertRaises(BadRow):
                    nearest(case, wish)

    def test_number_of_all_values(self):
        for value in ODD_VALUES + ([0, 1, 0], (0, 1), (False, 1, 0), (0, True, 0), (0, 1, 0, 0), "010", (0, 2, 0)):
            self.assertIsNone(number_of(A, value))
            self.assertIsNone(number_of(B, value))
        self.assertIsNone(number_of(B, (0,) * 39 + (False,)))
        self.assertIsNone(number_of(B, (0,) * 40))

    def test_bad_rows(self):
        for value in ODD_VALUES + ([0, 1, 0], (0, 1), (False, 1, 0), (0, 1, 0, 0), "010", (0, 2, 0)):
            for function in (nearest, farthest):
                with self.assertRaises(BadRow) as caught:
                    function(A, value)
                self.assertIs(caught.exception.given, value)
                self.assertEqual(list(vars(caught.exception)), ["given"])
                for stock in ((R,), (O,)):
                    self.assertTooHard(11, lambda: function((stock, 11, ()), value))

    def test_too_hard(self):
        for unknowns in (11, 14, 15, 40):
            for stock in ((R,), NO_WAY, LOW_ONLY, HIGH_ONLY, (O, R), (UNLIKE, R)):
                case = (stock, unknowns, ())
                for function in (
                    lambda: count(case), lambda: answer_at(case, None), lambda: answer_at(case, 0),
                    lambda: number_of(case, "x"),
                    lambda: list(answers(case)), lambda: next(answers(case)), lambda: yes_counts(case),
                ):
                    self.assertTooHard(unknowns, function)
            for stock in ((R,), NO_WAY, (O,), (UNLIKE,)):
                case = (stock, unknowns, ())
                for function in (
                    lambda: spread(case), lambda: nearest(case, (0,) * unknowns),
                    lambda: farthest(case, (0,) * unknowns),
                    lambda: cheapest(case, (0,) * unknowns),
                ):
                    self.assertTooHard(unknowns, function)

    def test_answers_is_a_generator(self):
        for case in (A, B, ((UNLIKE,), 40, ())):
            told = answers(case)
            self.assertTrue(inspect.isgenerator(told))
            some = list(itertools.islice(told, 5))
            self.assertEqual(some, [answer_at(case, number) for number in range(5)])
            self.assertEqual(some, sorted(some))
            other = answers(case)
            self.assertEqual(next(other), some[0])
            self.assertEqual(next(answers(case)), some[0])

    def test_odd_at_forty(self):
        chance = plain.chance_of(133)
        done = 0
        while done < 12:
            stock = plain.kept_stock(chance, ("odd",), (2, 3, 4, 5))
            great = plain.Blocks(chance, stock, (8, 7, 1, 6, 8, 2, 8), 4)
            case = great.case
            total = 1
            for _, rows in great.parts:
                total *= len(rows)
            self.assertEqual(count(case), total)
            if total == 0:
                self.assertEqual([yes_counts(case), list(answers(case))], [(0,) * 40, []])
                continue
            done += 1
            ones = {}
            for lot, rows in great.parts:
                for at, k in enumerate(lot):
                    ones[k] = total // len(rows) * sum(row[at] for row in rows)
            self.assertEqual(yes_counts(case), tuple(ones[k] for k in range(40)))
            numbers = sorted({0, total - 1} | {chance.randrange(total) for _ in range(8)})
            found = [answer_at(case, number) for number in numbers]
            self.assertEqual(found, sorted(set(found)))
            self.assertEqual([number_of(case, row) for row in found], numbers)
            self.assertTrue(all(plain.holds(case[0], case[2], row) for row in found))
            for number in (total, -1, True, None):
                with self.assertRaises(NoNumber):
                    answer_at(case, number)
        self.assertEqual(count(((O,), 40, ())), 2 ** 40)
        self.assertEqual(answer_at(((O,), 40, ()), 2 ** 40 - 1), (1,) * 40)

    def test_many_answers(self):
        case = ((UNLIKE,), 40, tuple((0, (k, k + 1)) for k in range(28)))
        told = list(answers(case))
        self.assertEqual(len(told), 2 ** 12)
        self.assertEqual(told, sorted(told))
        self.assertEqual([number_of(case, told[k]) for k in (0, 100, 4095)], [0, 100, 4095])


if __name__ == "__main__":
    unittest.main()
