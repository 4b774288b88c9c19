"""[D1]: what facts tell, one behind the other."""

import copy
import unittest

import plain
from plain import EXAMPLES, ODD_VALUES
from sixkeepers.following import agreeing, chain, chain_holds, follow

X = EXAMPLES["X"]
C = ((X,), 3, ((0, (0, 1)), (0, (1, 2))))
LINK = (2, ((0, 0), (0, 1), (1, 1)))


def some_known(chance, unknowns, most):
    return tuple((unknown, chance.randint(0, 1)) for unknown in sorted(chance.sample(range(unknowns),
        chance.randint(0, min(most, unknowns)))))


def right_form(case, value):
    """Whether the value has the form of a chain, with integers where they belong."""
    if not isinstance(value, tuple) or len(value) != 2 or not isinstance(value[0], tuple):
        return False
    many = len(case[2])
    for step in value[0]:
        if not isinstance(step, tuple) or len(step) != 3 or any(type(item) is not int for item in step):
            return False
        if not 0 <= step[0] < many or step[1] not in range(case[1]) or step[2] not in (0, 1):
            return False
    return value[1] is None or type(value[1]) is int and 0 <= value[1] < many


class Following(unittest.TestCase):
    def check(self, case, known, chance):
        before = copy.deepcopy((case, known))
        for fact in range(len(case[2])):
            self.assertTrue(plain.same(agreeing(case, fact, known), plain.agreeing(case, fact, known)))
        end = follow(case, known)
        self.assertTrue(plain.same(end, plain.follow(case, known, chance)))
        told = chain(case, known)
        self.assertTrue(right_form(case, told), told)
        self.assertTrue(plain.is_chain(case, known, told))
        self.assertEqual(told[1] is None, end is not None)
        if end is not None:
            pairs = [(unknown, value) for _, unknown, value in told[0]]
            self.assertEqual(tuple(sorted(list(known) + pairs)), end)
        self.assertIs(chain_holds(case, known, told), True)
        self.assertEqual((follow(case, known), chain(case, known)), (end, told))
        self.assertTrue(plain.same((case, known), before))
        return end

    def test_examples(self):
        told = [
            agreeing(C, 0, ()), agreeing(C, 0, ((0, 1),)), agreeing(((X,), 1, ((0, (0, 0)),)), 0, ()),
            follow(C, ((0, 1),)),
            follow(C, ((0, 1), (2, 0))), follow(C, ()),
        ]
        self.assertEqual(told, [((0, 1), (1, 0)), ((1, 0),), (), ((0, 1), (1, 0), (2, 1)), None, ()])
        told = [
            chain(C, ((0, 1),)), chain_holds(C, ((0, 1),), (((0, 1, 0),), None)),
            chain_holds(C, ((0, 1), (2, 0)), (((0, 1, 0),), 1)), chain_holds(C, ((0, 1), (2, 0)), (((1, 1, 1),), 0)),
        ]
        self.assertEqual(told, [(((0, 1, 0), (1, 2, 1)), None), False, True, True])

    def test_small(self):
        chance = plain.chance_of(91)
        ends = []
        for _ in range(700):
            stock = plain.some_stock(chance, (1, 2, 2, 3, 3, 4, 5))
            case = plain.some_case(chance, stock, chance.randint(1, 7), 7)
            ends.append(self.check(case, some_known(chance, case[1], 4), chance))
        self.assertTrue(150 < ends.count(None) < 600)

    def test_great(self):
        chance = plain.chance_of(92)
        stock = (LINK, (3, tuple(row for row in plain.all_rows(3) if row != (1, 1, 0))), X)
        ends = []
        for most in (3, 2, 2, 1, 1, 0):
            facts = tuple(plain.some_fact(chance, stock[:2], 40) for _ in range(80))
            ends.append(self.check((stock, 40, facts), some_known(chance, 40, most), chance))
        self.assertTrue(any(end is not None for end in ends))

    def test_a_long_chain(self):
        links = [(0, (k, k + 1)) for k in range(39)]
        for facts in (links, links[::-1]):
            case = ((LINK,), 40, tuple(facts + facts))
            self.assertEqual(follow(case, ((0, 1),)), tuple((k, 1) for k in range(40)))
            self.assertEqual(follow(case, ((39, 0),)), tuple((k, 0) for k in range(40)))
            self.assertIsNone(follow(case, ((0, 1), (39, 0))))
            self.assertEqual(follow(case, ((0, 0), (39, 1))), ((0, 0), (39, 1)))
            self.assertIs(chain_holds(case, ((0, 1), (39, 0)), chain(case, ((0, 1), (39, 0)))), True)

    def test_clash_at_once_and_on_the_way(self):
        case = ((LINK, X), 4, ((0, (0, 1)), (0, (1, 2)), (1, (3, 3))))
        self.assertIsNone(follow(case, ()))
        self.assertIs(chain_holds(case, (), ((), 2)), True)
        self.assertIs(chain_holds(case, (), ((), None)), False)
        case = (case[0], 4, case[2][:2])
        self.assertEqual(follow(case, ()), ())
        self.assertIsNone(follow(case, ((0, 1), (1, 0))))
        self.assertIs(chain_holds(case, ((0, 1), (1, 0)), ((), 0)), True)
        self.assertIsNone(follow(case, ((0, 1), (2, 0))))
        self.assertEqual(follow((case[0], 40, ()), ((3, 1), (39, 0))), ((3, 1), (39, 0)))
        self.assertEqual(chain((case[0], 40, ()), ()), ((), None))

    def test_one_unknown_several_times(self):
        case = ((EXAMPLES["T"],), 2, ((0, (0, 0, 1)),))
        self.assertEqual(agreeing(case, 0, ()), ((0, 0, 1),))
        self.assertEqual(agreeing(case, 0, ((0, 1),)), ())
        self.assertEqual(agreeing(case, 0, ((1, 0),)), ())
        self.assertEqual(follow(case, ()), ((0, 0), (1, 1)))
        self.assertIs(chain_holds(case, (), (((0, 0, 0), (0, 1, 1)), None)), True)
        self.assertIs(chain_holds(case, (), (((0, 1, 1), (0, 0, 0)), None)), True)


class ChainHolds(unittest.TestCase):
    def test_wrong_ones(self):
        known = ((0, 1),)
        good = (((0, 1, 0), (1, 2, 1)), None)
        self.assertIs(chain_holds(C, known, good), True)
        for value in (
            ((), None), (((0, 1, 0),), None), (((1, 2, 1), (0, 1, 0)), None), (((0, 1, 1), (1, 2, 1)), None),
            good[:1], good + (None,),
            list(good), (list(good[0]), None), (good[0], 0), (good[0], 1), (good[0], 2), (good[0], -1),
            (good[0], False), (good[0], ()),
            (((0, 1, 0), (0, 1, 0), (1, 2, 1)), None), (((0, 0, 1),) + good[0], None), (((0, 1, 0), (0, 2, 1)), None),
            (((False, 1, 0), (1, 2, 1)), None), (((0, True, 0), (1, 2, 1)), None), (((0, 1, False), (1, 2, 1)), None),
            (((-2, 1, 0), (1, 2, 1)), None), (((0, 1, 0), (-1, 2, 1)), None), (((0, 1, 0), (1, -1, 1)), None),
            (((0, 1, 0), [1, 2, 1]), None), (((0, 1), (1, 2, 1)), None),
            (((0, 1, 0, 0), (1, 2, 1)), None), (((2, 1, 0), (1, 2, 1)), None), (((0, 3, 0), (1, 2, 1)), None),
            ("", None),
            (((0, [], 0), (1, 2, 1)), None), (((0, 1, 0), (1, (2,), 1)), None), (((0, 10 ** 60, 0),), None),
            (((0, 1, 10 ** 60),), None),
            (((0, 1, 0), (1, 2, 1)), "None"), (((0, 1, 0), (1, 2, 1), ()), None), (((0, 1, 2), (1, 2, 1)), None),
        ):
            self.assertIs(chain_holds(C, known, value), False, value)
        for value in ODD_VALUES:
            self.assertIs(chain_holds(C, known, value), False)
            self.assertIs(chain_holds(C, known, (value, None)), False)
            self.assertIs(chain_holds(C, known, (good[0] + (value,), None)), False)
            self.assertIs(chain_holds(C, known, (good[0], value)), value is None)

    def test_ends(self):
        known = ((0, 1), (2, 0))
        self.assertIs(chain_holds(C, known, (((0, 1, 0),), 1)), True)
        # Beside both known values no fact clashes as yet; behind the step just the other one does.
        for value in (((), 0), ((), 1), ((), None), (((0, 1, 0),), 0), (((0, 1, 0),), None), (((1, 1, 1),), 1),
            (((0, 1, 0),), True)):
            self.assertIs(chain_holds(C, known, value), False, value)

    def test_a_fact_that_clashes_tells_nothing(self):
        case = ((X, LINK), 3, ((0, (0, 0)), (1, (0, 1)), (1, (1, 2))))
        self.assertIs(chain_holds(case, (), (((0, 0, 0),), 0)), False)
        self.assertIs(chain_holds(case, (), (((0, 0, 1),), 0)), False)
        self.assertIs(chain_holds(case, ((1, 1),), (((2, 2, 1),), 0)), True)
        self.assertIs(chain_holds(case, ((0, 1),), (((1, 1, 1), (2, 2, 1)), 0)), True)

    def test_bent(self):
        chance = plain.chance_of(93)
        rights = 0
        for _ in range(4000):
            case = plain.some_case(chance, plain.kept_stock(chance, ("both",), (1, 2, 3)), chance.randint(2, 5), 6)
            known = some_known(chance, case[1], 2)
            value = plain.replaced(chain(case, known), chance)
            right = right_form(case, value) and plain.is_chain(case, known, value)
            rights += right
            self.assertIs(chain_holds(case, known, value), right, (case, known, value))
        self.assertGreater(rights, 20)


if __name__ == "__main__":
    unittest.main()
