"""[B2], [B3] and [A2] (d): which relations a stock can say."""

import copy
import functools
import itertools
import unittest

import plain
from plain import ODD_VALUES
from sixkeepers.errors import NotOne, Unfit
from sixkeepers.forms import case_error
from sixkeepers.sayings import (
    all_sayable, around, broken_by, expanded, gadget_error, gadget_relation, sayable,
)

UP, SAME, UNLIKE = (2, ((0, 0), (0, 1), (1, 1))), (2, ((0, 0), (1, 1))), (2, ((0, 1), (1, 0)))
OR2 = (2, ((0, 1), (1, 0), (1, 1)))
NAND = (2, ((0, 0), (0, 1), (1, 0)))
TURN = (3, ((0, 0, 1), (0, 1, 0), (1, 0, 0)))
ZERO, ONE, ANY = (1, ((0,),)), (1, ((1,),)), (1, ((0,), (1,)))
K = (UP,)


@functools.lru_cache(maxsize=None)
def plain_keepers(stock):
    """All operations of one, two and three things that keep the stock."""
    return [op for many in (1, 2, 3) for op in plain.all_operations(many) if plain.keeps_stock(op, stock)]


def plain_bars(stock, relation):
    """All operations that broken_by may tell."""
    if relation[1] == ():
        return [op for op in ((0, 0), (1, 1)) if plain.keeps_stock(op, stock)]
    return [op for op in plain_keepers(stock) if not plain.keeps(op, relation)]


def stocks():
    """Stocks that low keeps, or high, both of these or neither."""
    chance = plain.chance_of(41)
    return [
        K, (SAME,), (UNLIKE,), (OR2,), (NAND,), (TURN,), (ZERO,), (ONE,), (ANY,), (ZERO, ONE), (UP, ZERO, ONE), (OR2, NAND),
        (UNLIKE, ZERO), (OR2, UP), (SAME, ONE), (TURN, UP),
    ] + [plain.some_stock(chance) for _ in range(6)]


class Examples(unittest.TestCase):
    def test_gadgets(self):
        told = [
            gadget_relation(K, (3, ((0, (0, 1)), (0, (1, 2))), (0, 2))) == UP,
            gadget_relation(K, (1, (), (0, 0))) == SAME,
            gadget_error(K, (2, ((0, (1, 0)), (0, (0, 1))), (0,))),
        ]
        self.assertEqual(told, [True, True, "facts"])

    def test_sayable(self):
        told = [
            sayable(K, SAME), sayable(K, UNLIKE), sayable(K, (1, ())), sayable((UNLIKE,), (1, ())), broken_by(K, SAME),
            around(K, ((0, 1),))[0] == UP, all_sayable((UNLIKE,), 1),
        ]
        self.assertEqual(told, [True, False, False, True, None, True, ((1, ()), (1, ((0,), (1,))))])

    def test_expanded(self):
        told = [
            expanded(((SAME,), 2, ((0, (0, 1)),)), K, ((2, ((0, (0, 1)), (0, (1, 0))), (0, 1)),)),
            expanded(((SAME,), 3, ((0, (0, 2)),)), K, ((1, (), (0, 0)),)),
        ]
        self.assertEqual(told, [
            ((((2, ((0, 0), (0, 1), (1, 1))),), 2, ((0, (0, 1)), (0, (1, 0)))), (0, 1)),
            ((((2, ((0, 0), (0, 1), (1, 1))),), 2, ()), (0, 1, 0)),
        ])


class GadgetErrors(unittest.TestCase):
    def check(self, stock, value, error):
        before = copy.deepcopy(value)
        self.assertEqual(gadget_error(stock, value), error, value)
        self.assertTrue(plain.same(value, before))

    def test_good(self):
        every = tuple(sorted((0, places) for places in itertools.product(range(10), repeat=2)))
        for value in (
            (1, (), (0,)), (1, (), (0, 0, 0, 0, 0)), (10, (), (9, 0, 9, 1, 2)), (2, ((0, (0, 0)), (0, (0, 1))), (1,)),
            (10, every, (0,)), (10, ((0, (9, 9)),), (0,)),
        ):
            self.check(K, value, None)
        self.check((UP, ONE), (3, ((0, (2, 2)), (1, (0,))), (0, 1, 2)), None)

    def test_no_triple(self):
        for value in ODD_VALUES:
            if not (isinstance(value, tuple) and len(value) == 3):
                self.check(K, value, "gadget")
        for value in ([1, (), (0,)], (1, ()), (1, (), (0,), ()), "abc", {0: 1, 1: (), 2: (0,)}):
            self.check(K, value, "gadget")

    def test_unknowns(self):
        for unknowns in (0, 11, -1, True, False, None, "1", 10 ** 39, (1,), [1], 40):
            self.check(K, (unknowns, (), (0,)), "unknowns")
            self.check(K, (unknowns, [], ()), "unknowns")
            self.check(K, (unknowns, ((0, (99, 99)),), None), "unknowns")

    def test_facts(self):
        for facts in (
            [], [(0, (0, 1))], None, 0, "", {}, ((0, (0, 3)),), ((0, (3, 0)),), ((0, (-1, 0)),), ((1, (0, 1)),), ((-1, (0, 1)),),
            ((0, (0,)),), ((0, (0, 1, 2)),), ((0, [0, 1]),), ([0, (0, 1)],), ((0, (True, 0)),), ((False, (0, 1)),), (None,),
            ((0, (0, 1)), (0, (0, 1))), ((0, (0, 2)), (0, (0, 1))), ((0, (1, 0)), (0, (0, 1))), ((0, (0, 1), 0),), (0, (0, 1)),
            ((0, (0, 0)), (0, (0, 1)), (0, (0, 1))), ((0, (0, 1)), None), (None, (0, (0, 1))), ((0, (0, 10 ** 39)),),
        ):
            self.check(K, (3, facts, (0,)), "facts")
            self.check(K, (3, facts, ()), "facts")
            self.check(K, (3, facts, None), "facts")
        self.check((UP, ONE), (3, ((1, (0,)), (0, (0, 0))), (0,)), "facts")
        self.check((UP, ONE), (3, ((1, (0, 1)),), (0,)), "facts")
        self.check((UP, ONE), (3, ((2, (0,)),), (0,)), "facts")

    def test_seen(self):
        for shown in (
            (), (0,) * 6, (3,), (-1,), (0, 3), [0], None, 0, "0", (True,), (False,), (None,), ((0,),), {0: 1}, (0, 10 ** 39),
        ):
            self.check(K, (3, (), shown), "seen")
            self.check(K, (3, ((0, (0, 1)),), shown), "seen")

    def test_something_otherwise(self):
        chance = plain.chance_of(42)
        stock = (UP, ONE)
        gadget = (3, ((0, (0, 1)), (0, (2, 1)), (1, (2,))), (0, 2))
        kept = 0
        for _ in range(3000):
            value = plain.replaced(gadget, chance)
            good = is_gadget(stock, value)
            kept += good
            self.assertEqual(gadget_error(stock, value) is None, good, value)
        self.assertGreater(kept, 100)


def is_gadget(stock, value):
    def below(item, many):
        return type(item) is int and 0 <= item < many
    if type(value) is not tuple or len(value) != 3:
        return False
    unknowns, facts, shown = value
    if not below(unknowns, 11) or unknowns == 0 or type(facts) is not tuple or type(shown) is not tuple:
        return False
    for fact in facts:
        if type(fact) is not tuple or len(fact) != 2 or not below(fact[0], len(stock)) or type(fact[1]) is not tuple:
            return False
        if len(fact[1]) != stock[fact[0]][0] or not all(below(item, unknowns) for item in fact[1]):
            return False
    if list(facts) != sorted(set(facts)):
        return False
    return 1 <= len(shown) <= 5 and all(below(item, unknowns) for item in shown)


class GadgetRelations(unittest.TestCase):
    def check(self, stock, gadget):
        self.assertIsNone(gadget_error(stock, gadget))
        before = copy.deepcopy((stock, gadget))
        told = gadget_relation(stock, gadget)
        self.assertTrue(plain.same(told, plain.gadget_relation(stock, gadget)), (stock, gadget))
        self.assertTrue(plain.same((stock, gadget), before))
        return told

    def test_some(self):
        chance = plain.chance_of(43)
        without = 0
        for _ in range(250):
            stock = plain.some_stock(chance, (1, 2, 3, 4, 5))
            gadget = plain.some_gadget(chance, stock, chance.randint(1, 5), chance.randint(0, 6), chance.randint(1, 5))
            without += self.check(stock, gadget)[1] == ()
        self.assertGreater(without, 5)

    def test_ten_unknowns(self):
        chance = plain.chance_of(44)
        for _ in range(8):
            stock = plain.some_stock(chance)
            self.check(stock, plain.some_gadget(chance, stock, 10, chance.randint(0, 8), chance.randint(1, 5)))
        line = tuple(sorted((0, (k, k + 1)) for k in range(9)))
        self.assertEqual(self.check(K, (10, line, (0, 9))), UP)
        self.assertEqual(self.check((UNLIKE,), (10, line, (0, 9))), UNLIKE)
        self.assertEqual(self.check((UNLIKE,), (10, line[:8], (0, 8))), SAME)

    def test_alike_ones_in_seen(self):
        self.assertEqual(self.check(K, (1, (), (0,) * 5)), (5, ((0,) * 5, (1,) * 5)))
        self.assertEqual(self.check((ONE,), (2, ((0, (1,)),), (1, 0, 1))), (3, ((1, 0, 1), (1, 1, 1))))

    def test_without_facts(self):
        for many in range(1, 6):
            self.assertEqual(self.check(K, (many, (), tuple(range(many)))), (many, tuple(plain.all_rows(many))))

    def test_no_rows(self):
        self.assertEqual(self.check((UNLIKE,), (1, ((0, (0, 0)),), (0,))), (1, ()))
        self.assertEqual(self.check((ZERO, ONE), (3, ((0, (2,)), (1, (2,))), (0, 1))), (2, ()))

    def test_many_facts(self):
        every = tuple(sorted((0, places) for places in itertools.product(range(10), repeat=3)))
        stock = ((3, tuple(plain.all_rows(3)[1:])),)
        self.assertEqual(gadget_relation(stock, (10, every, (0, 9))), (2, ((1, 1),)))


class Sayable(unittest.TestCase):
    def check(self, stock, relation):
        before = copy.deepcopy((stock, relation))
        bars = plain_bars(stock, relation)
        told = broken_by(stock, relation)
        self.assertIs(sayable(stock, relation), bars == [])
        if bars == []:
            self.assertIsNone(told)
        else:
            self.assertTrue(any(plain.same(told, bar) for bar in bars), (stock, relation, told))
        self.assertEqual(broken_by(stock, relation), told)
        self.assertTrue(plain.same((stock, relation), before))

    def test_one_and_two_places(self):
        for stock in stocks():
            for arity in (1, 2):
                for relation in plain.all_relations(arity):
                    self.check(stock, relation)

    def test_three_places(self):
        chance = plain.chance_of(45)
        for stock in stocks():
            self.check(stock, (3, ()))
            for _ in range(5):
                self.check(stock, plain.some_relation(chance, 3, 1, 5))
        for stock in stocks()[:3]:
            self.check(stock, (3, tuple(plain.all_rows(3))))

    def test_own_relations(self):
        for stock in stocks():
            for relation in stock:
                self.check(stock, relation)
                self.assertTrue(sayable(stock, relation))

    def test_without_rows(self):
        for stock, bars in (
            ((UP,), [(0, 0), (1, 1)]), ((ZERO, NAND), [(0, 0)]), ((ONE, OR2), [(1, 1)]), ((ZERO, ONE), []), ((UNLIKE,), []),
            ((ZERO, OR2), []), ((OR2, NAND), []),
        ):
            for arity in (1, 2, 3):
                told = broken_by(stock, (arity, ()))
                self.assertIn(told, bars or [None])
                self.assertIs(sayable(stock, (arity, ())), bars == [])

    def test_all(self):
        for stock in stocks():
            for places in (1, 2):
                good = sorted(rel for rel in plain.all_relations(places) if plain_bars(stock, rel) == [])
                self.assertTrue(plain.same(all_sayable(stock, places), tuple(good)))

    def test_bars_of_each_number_of_things(self):
        # What one thing bars not, two or three may.
        for stock, relation in (((UP, ZERO, ONE), OR2), ((OR2, NAND, UP, ZERO, ONE), (3, tuple(plain.all_rows(3)[1:])))):
            told = broken_by(stock, relation)
            self.assertTrue(plain.keeps_stock(told, stock))
            self.assertFalse(plain.keeps(told, relation))
        self.assertEqual(len(broken_by((UP, ZERO, ONE), OR2)), 4)
        self.assertEqual(len(broken_by((OR2, NAND, UP, ZERO, ONE), (3, tuple(plain.all_rows(3)[1:])))), 8)

    def test_what_gadgets_say(self):
        # [A2] (d): all that a gadget says can be said, and everything that keeps the stock keeps it.
        chance = plain.chance_of(46)
        for _ in range(120):
            stock = chance.choice(stocks())
            gadget = plain.some_gadget(chance, stock, chance.randint(1, 5), chance.randint(0, 5), chance.randint(1, 3))
            relation = gadget_relation(stock, gadget)
            self.assertTrue(sayable(stock, relation))
            for operation in plain_keepers(stock):
                self.assertTrue(plain.keeps(operation, relation))


class Around(unittest.TestCase):
    def check(self, stock, rows):
        before = copy.deepcopy((stock, rows))
        told = around(stock, rows)
        self.assertIs(type(told), tuple)
        relation, gadget = told
        self.assertIsNone(gadget_error(stock, gadget))
        many = len(rows)
        good = {
            plain.laid(operation, rows)
            for operation in plain_keepers(stock) if plain.thing_count(operation) == many
        }
        self.assertTrue(plain.same(relation, (len(rows[0]), tuple(sorted(good)))))
        self.assertTrue(set(rows) <= set(relation[1]))
        self.assertEqual(gadget_relation(stock, gadget), relation)
        self.assertEqual(around(stock, rows), told)
        self.assertTrue(plain.same((stock, rows), before))
        return told

    def test_all_rows_of_two_places(self):
        for stock in stocks():
            for many in (1, 2):
                for rows in itertools.product(plain.all_rows(2), repeat=many):
                    self.check(stock, rows)

    def test_some(self):
        chance = plain.chance_of(47)
        for stock in stocks():
            for places in range(1, 6):
                rows = tuple(chance.choice(plain.all_rows(places)) for _ in range(3))
                self.check(stock, rows)

    def test_plain_reckoning_of_the_gadget(self):
        chance = plain.chance_of(48)
        for stock in stocks()[:12]:
            for many in (1, 2, 3):
                rows = tuple(chance.choice(plain.all_rows(3)) for _ in range(many))
                relation, gadget = around(stock, rows)
                self.assertEqual(plain.gadget_relation(stock, gadget), relation)

    def test_least(self):
        # No sayable relation with the rows has fewer: out of all relations of two places.
        for stock in stocks():
            for rows in itertools.combinations(plain.all_rows(2), 2):
                wider = [relation for relation in all_sayable(stock, 2) if set(rows) <= set(relation[1])]
                self.assertEqual(around(stock, rows)[0], min(wider, key=lambda relation: len(relation[1])))

    def test_equal_rows_and_any_order(self):
        row, other = (0, 1, 0), (1, 1, 0)
        for stock in stocks():
            one = self.check(stock, (row,))[0]
            self.assertEqual(self.check(stock, (row, row, row))[0], one)
            self.assertEqual(self.check(stock, (row, other))[0], self.check(stock, (other, row))[0])
            self.assertEqual(self.check(stock, (row, other, row))[0], self.check(stock, (other, row))[0])


def plain_expanded(case, stock, gadgets):
    """What [B3] tells, word by word, without limits."""
    own, unknowns, facts = case
    meet = {unknown: {unknown} for unknown in range(unknowns)}
    for index, places in facts:
        shown = gadgets[index][2]
        for p, q in itertools.product(range(len(places)), repeat=2):
            if shown[p] == shown[q]:
                meet[places[p]].add(places[q])
    lots = []
    for unknown in range(unknowns):
        lot, before = {unknown}, None
        while lot != before:
            before = set(lot)
            lot = set().union(*[meet[one] for one in before])
        if lot not in lots:
            lots.append(lot)
    lots.sort(key=min)
    spots = tuple(next(k for k, lot in enumerate(lots) if unknown in lot) for unknown in range(unknowns))
    total = len(lots)
    found = []
    for index, places in facts:
        names = {}
        for unknown in range(gadgets[index][0]):
            if unknown in gadgets[index][2]:
                names[unknown] = spots[places[gadgets[index][2].index(unknown)]]
            else:
                names[unknown] = total
                total += 1
        for other, parts in gadgets[index][1]:
            fact = (other, tuple(names[part] for part in parts))
            if fact not in found:
                found.append(fact)
    return ((stock, total, tuple(found)), spots)


class Expanded(unittest.TestCase):
    def check(self, case, stock, gadgets):
        before = copy.deepcopy((case, stock, gadgets))
        told = expanded(case, stock, gadgets)
        self.assertTrue(plain.same(told, plain_expanded(case, stock, gadgets)), (case, stock, gadgets))
        other, spots = told
        self.assertIsNone(case_error(other))
        self.assertTrue(plain.same((case, stock, gadgets), before))
        if other[1] <= 12:
            rows = {tuple(row[spot] for spot in spots) for row in plain.answers(other)}
            self.assertEqual(rows, set(plain.answers(case)))
        return told

    def test_some(self):
        chance = plain.chance_of(49)
        done = 0
        for _ in range(400):
            stock = plain.some_stock(chance)
            gadgets = tuple(
                plain.some_gadget(chance, stock, chance.randint(1, 4), chance.randint(0, 3), chance.randint(1, 3))
                for _ in range(chance.randint(1, 3))
            )
            own = tuple(plain.gadget_relation(stock, gadget) for gadget in gadgets)
            if any(relation[1] == () for relation in own):
                continue
            done += 1
            self.check(plain.some_case(chance, own, chance.randint(1, 6), 4), stock, gadgets)
        self.assertGreater(done, 150)

    def test_drawn_together(self):
        # Along a row of facts: 0 and 4, 4 and 2, 5 and 1; 3 is alone.
        case = ((SAME,), 6, ((0, (4, 0)), (0, (2, 4)), (0, (5, 1))))
        told = self.check(case, K, ((1, (), (0, 0)),))
        self.assertEqual(told, ((K, 3, ()), (0, 1, 0, 2, 0, 1)))
        five = (5, ((0,) * 5, (1,) * 5))
        told = self.check(((five,), 5, ((0, (3, 3, 1, 4, 4)),)), K, ((1, (), (0,) * 5),))
        self.assertEqual(told, ((K, 3, ()), (0, 1, 2, 1, 1)))

    def test_meeting_is_within_one_fact(self):
        pair = (2, ((0, 0), (0, 1), (1, 1)))
        gadget = (2, ((0, (0, 1)),), (0, 1))
        told = self.check(((pair,), 3, ((0, (0, 1)), (0, (1, 2)))), K, (gadget,))
        self.assertEqual(told, ((K, 3, ((0, (0, 1)), (0, (1, 2)))), (0, 1, 2)))

    def test_hidden_unknowns(self):
        # Unknowns 0 and 2 of the gadget are hidden, 2 even in no fact of it.
        gadget = (4, ((0, (0, 1)), (0, (3, 0))), (3, 1))
        told = self.check(((UP,), 2, ((0, (0, 1)), (0, (1, 1)))), K, (gadget,))
        self.assertEqual(told, ((K, 6, ((0, (2, 1)), (0, (0, 2)), (0, (4, 1)), (0, (1, 4)))), (0, 1)))

    def test_facts_that_stand_twice(self):
        gadget = (3, ((0, (0, 1)), (0, (0, 2)), (0, (2, 1))), (0, 1))
        case = ((UP,), 2, ((0, (0, 1)), (0, (0, 1))))
        told = self.check(case, K, (gadget,))
        self.assertEqual(told, ((K, 4, ((0, (0, 1)), (0, (0, 2)), (0, (2, 1)), (0, (0, 3)), (0, (3, 1)))), (0, 1)))

    def test_equal_facts_of_several(self):
        # Of equal facts only the first stays, whichever facts of the case they come of.
        swap = (2, ((0, (0, 1)), (0, (1, 0))), (0, 1))
        plainly = (2, ((0, (0, 1)),), (0, 1))
        case = ((UP, SAME), 3, ((0, (1, 2)), (1, (2, 1)), (0, (1, 2)), (0, (0, 0)), (1, (0, 0))))
        told = self.check(case, K, (plainly, swap))
        self.assertEqual(told[0][2], ((0, (1, 2)), (0, (2, 1)), (0, (0, 0))))

    def test_no_facts(self):
        self.assertEqual(self.check(((UP,), 40, ()), K, ((2, ((0, (0, 1)),), (0, 1)),)), ((K, 40, ()), tuple(range(40))))

    def test_not_one(self):
        good, bad = (2, ((0, (0, 1)),), (0, 1)), (2, ((0, (1, 0)),), (0, 1))
        for own, gadgets, index in (
            ((UP,), (bad,), 0), ((UP, UP), (good, bad), 1), ((UP, UP, UP), (good, bad, bad), 1), ((UP, UP), (bad, good), 0),
            ((SAME,), (good,), 0), ((ANY, UP), ((1, (), (0,)), (1, (), (0, 0))), 1), ((ONE,), ((1, (), (0,)),), 0),
        ):
            for facts in ((), ((0, tuple(range(own[0][0]))),)):
                with self.assertRaises(NotOne) as caught:
                    expanded((own, 3, facts), K, gadgets)
                self.assertTrue(plain.same(caught.exception.given, index))

    def test_unfit_by_unknowns(self):
        gadget = (3, ((0, (0, 2)), (0, (2, 1))), (0, 1))
        for unknowns, many in ((20, 20), (39, 1), (35, 5)):
            case = ((UP,), unknowns, ((0, (0, 1)),) * many)
            self.assertEqual(self.check(case, K, (gadget,))[0][1], 40)
        for unknowns, many in ((21, 20), (40, 1), (35, 6), (40, 30)):
            with self.assertRaises(Unfit):
                expanded(((UP,), unknowns, ((0, (0, 1)),) * many), K, (gadget,))

    def test_unfit_by_unknowns_that_are_drawn_together(self):
        # Forty unknowns of the case, two of them in one lot, leave room for one more.
        gadgets = ((1, (), (0, 0)), (3, ((0, (0, 2)), (0, (2, 1))), (0, 1)))
        case = ((SAME, UP), 40, ((0, (3, 4)), (1, (3, 5))))
        self.assertEqual(self.check(case, K, gadgets)[0][1], 40)
        with self.assertRaises(Unfit):
            expanded((case[0], 40, case[2] + ((1, (3, 5)),)), K, gadgets)

    def test_unfit_by_facts(self):
        swap = (2, ((0, (0, 1)), (0, (1, 0))), (0, 1))
        pairs = [(a, b) for a in range(40) for b in range(a)]
        case = ((SAME,), 40, tuple((0, pair) for pair in pairs[:40]))
        self.assertEqual(len(self.check(case, K, (swap,))[0][2]), 80)
        self.assertEqual(len(self.check((case[0], 40, case[2] * 2), K, (swap,))[0][2]), 80)
        more = tuple((0, pair) for pair in pairs[:41])
        self.assertRaises(Unfit, expanded, ((SAME,), 40, more), K, (swap,))
        # Of this one more just one fact is new: 81.
        case = ((SAME,), 40, case[2] + ((0, (39, 39)),))
        self.assertRaises(Unfit, expanded, case, K, (swap,))

    def test_not_one_ahead_of_unfit(self):
        gadget = (3, ((0, (0, 2)), (0, (2, 1))), (0, 1))
        case = ((UP, SAME), 40, ((0, (0, 1)),) * 5)
        with self.assertRaises(NotOne) as caught:
            expanded(case, K, (gadget, gadget))
        self.assertEqual(caught.exception.given, 1)
        self.assertRaises(Unfit, expanded, ((UP, UP),) + case[1:], K, (gadget, gadget))

    def test_great_gadgets(self):
        # Whatever the gadgets of around say can be put in their stead.
        stock = (OR2, UP, ZERO, ONE)
        relation, gadget = around(stock, ((0, 1, 1), (1, 0, 1)))
        case = ((relation,), 3, ((0, (2, 1, 0)),))
        if len(gadget[1]) <= 80:
            self.check(case, stock, (gadget,))


if __name__ == "__main__":
    unittest.main()
