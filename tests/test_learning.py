"""[I1] to [I4]: learners."""

import copy
import unittest

import plain
from plain import EXAMPLES, LOW_ONLY, NO_WAY, ODD_VALUES
from sixkeepers.errors import BadRow, NothingToUndo, TooHard, Unfit
from sixkeepers.learning import Learner, against, beyond, learnt

SHAPES = ("any", "both", "either", "most", "odd")
T = EXAMPLES["T"]


def has_shape(clause, shape):
    yes, no = clause
    return {"any": True, "both": len(yes) <= 1, "either": len(no) <= 1, "most": len(yes) + len(no) <= 2}[shape]


class Told:
    """What a learner should be, by going through all candidates."""

    def __init__(self, many, shape, width, rows):
        rows = set(rows)
        if shape == "odd":
            self.guess = self.sums(many, rows)
            self.left = many - (many - len(self.guess)) if rows else many + 1
            self.lets = lambda row: all(plain.holds_sum(one, row) for one in self.guess)
            return
        candidates = [
            clause for clause in plain.all_clauses(many)
            if has_shape(clause, shape) and len(clause[0]) + len(clause[1]) <= width
            and all(plain.holds_clause(clause, row) for row in rows)
        ]
        self.guess = tuple(sorted(
            one for one in candidates if not any(other != one and plain.within(other, one) for other in candidates)
        ))
        self.left = len(candidates)
        self.lets = lambda row: all(plain.holds_clause(clause, row) for clause in self.guess)

    def sums(self, many, rows):
        """The reduced sums of the least set around the rows that the odd keeper keeps."""
        if not rows:
            return (((), 1),)
        first = min(rows)
        span = {(0,) * many}
        for row in rows:
            turn = tuple(a ^ b for a, b in zip(row, first))
            span |= {tuple(a ^ b for a, b in zip(one, turn)) for one in span}
        hull = [tuple(a ^ b for a, b in zip(one, first)) for one in span]
        # The head of each sum is a place that the places ahead of it, as far as they are free, tell.
        found, free = [], []
        for place in range(many):
            for some in plain.all_subsets(free):
                values = {sum(row[k] for k in some + (place,)) % 2 for row in hull}
                if len(values) == 1:
                    found.append((some + (place,), values.pop()))
                    break
            else:
                free.append(place)
        return tuple(found)


class Learners(unittest.TestCase):
    def assertError(self, error, fields, function):
        with self.assertRaises(error) as caught:
            function()
        self.assertTrue(plain.same(sorted(vars(caught.exception).items()), sorted(fields.items())))

    def check(self, learner, many, shape, width, rows, chance, samples=6):
        right = Told(many, shape, width, rows)
        self.assertTrue(plain.same(learner.guess, right.guess), (many, shape, width, rows, learner.guess, right.guess))
        self.assertTrue(plain.same(
            (learner.many, learner.shape, learner.width, learner.told, learner.left, len(learner)),
            (many, shape, width, tuple(rows), right.left, len(rows)),
        ))
        for row in [tuple(chance.randint(0, 1) for _ in range(many)) for _ in range(samples)] + rows[-2:]:
            self.assertIs(learner.lets(row), right.lets(row))
            self.assertIs(row in learner, right.lets(row))
            self.assertTrue(right.lets(row) or row not in rows)
        return right

    def test_examples(self):
        learner = Learner(2, "both", 2)
        told = [
            learner.guess, learner.left, learner.tell((0, 1)), learner.guess, learner.left, learner.lets((1, 1)),
            learner.tell((0, 1)), learner.told,
        ]
        right = [(((), ()),), 8, True, (((), (0,)), ((1,), ())), 4, False, False, ((0, 1), (0, 1))]
        self.assertTrue(plain.same(told, right))
        told = [
            learner.tell((1, 0)), learner.guess, (0, 0) in learner, learner.left, learner.take_back(), learner.left,
            len(learner),
        ]
        self.assertTrue(plain.same(told, [True, (((), (0, 1)),), True, 1, (1, 0), 4, 2]))
        N = ((2, ((0, 1), (1, 0))),)
        D = (N, 3, ((0, (0, 1)), (0, (1, 2))))
        told = [
            learnt(D, "odd", 1), learnt(D, "both", 2)[1], against(D, Learner(3, "any", 1)),
            beyond(D, Learner(3, "odd", 1)),
        ]
        self.assertTrue(plain.same(told, [((((0, 1), 1), ((0, 2), 0)), 2), 2, (0, 1, 0), None]))

    def test_all_shapes_and_widths(self):
        chance = plain.chance_of(201)
        for many in range(1, 9):
            for shape in SHAPES:
                for width in (1, 2, 3):
                    learner = Learner(many, shape, width)
                    rows = []
                    first = self.check(learner, many, shape, width, rows, chance).left
                    changes = 0
                    for _ in range(4 if many > 6 else 8):
                        row = chance.choice(rows) if rows and chance.random() < 0.2 else None
                        row = row or tuple(chance.randint(0, 1) for _ in range(many))
                        ahead = learner.lets(row), learner.left, learner.guess
                        changed = learner.tell(row)
                        rows.append(row)
                        self.assertIs(changed, not ahead[0])
                        self.assertIs(changed, learner.guess != ahead[2])
                        self.assertEqual(changed, learner.left < ahead[1])
                        self.assertTrue(changed or learner.left == ahead[1])
                        changes += changed
                        self.check(learner, many, shape, width, rows, chance)
                    self.assertLessEqual(changes, first)

    def test_all_rows(self):
        chance = plain.chance_of(202)
        for many in range(1, 9):
            for shape in SHAPES:
                rows = plain.all_rows(many)
                chance.shuffle(rows)
                learner = Learner(many, shape, 3)
                changes = [learner.tell(row) for row in rows]
                self.assertEqual((learner.guess, learner.left), ((), 0))
                self.assertLessEqual(changes.count(True), Learner(many, shape, 3).left)
                self.assertEqual(changes[0], True)
                self.assertTrue(all(row in learner for row in rows))
                self.assertEqual(learner.told, tuple(rows))
                for row in rows[::-1][:-1]:
                    self.assertEqual(learner.take_back(), row)
                self.check(learner, many, shape, 3, rows[:1], chance)

    def test_order_and_number_do_not_matter(self):
        chance = plain.chance_of(203)
        for shape in SHAPES:
            for _ in range(15):
                many, width = chance.randint(1, 6), chance.randint(1, 3)
                rows = [tuple(chance.randint(0, 1) for _ in range(many)) for _ in range(chance.randint(0, 6))]
                one, other = Learner(many, shape, width), Learner(many, shape, width)
                for row in rows:
                    one.tell(row)
                for row in sorted(rows * 2, key=lambda row: chance.random()):
                    other.tell(row)
                self.assertEqual((one.guess, one.left), (other.guess, other.left))
                self.assertIs(one == other, True)
                self.assertIs(one != other, False)
                self.assertEqual(len(other), 2 * len(one))

    def test_closest_guess(self):
        # The guess lets no row that some clause of the shape, or sum, which all rows let, does not.
        chance = plain.chance_of(204)
        for shape in SHAPES:
            for _ in range(12):
                many, width = chance.randint(1, 5), chance.randint(1, 3)
                learner = Learner(many, shape, width)
                rows = [tuple(chance.randint(0, 1) for _ in range(many)) for _ in range(chance.randint(1, 5))]
                for row in rows:
                    learner.tell(row)
                if shape == "odd":
                    holding = [one for one in plain.all_sums(many) if all(plain.holds_sum(one, row) for row in rows)]
                    right = plain.sums_rows(many, holding)
                    self.assertTrue(plain.is_reduced(learner.guess))
                else:
                    holding = [one for one in plain.all_clauses(many) if has_shape(one, shape)]
                    holding = [one for one in holding if len(one[0]) + len(one[1]) <= width]
                    right = plain.clauses_rows(
                        many, [one for one in holding if all(plain.holds_clause(one, row) for row in rows)]
                    )
                self.assertEqual(tuple(row for row in plain.all_rows(many) if learner.lets(row)), right)

    def test_take_back_and_copy(self):
        chance = plain.chance_of(205)
        for shape in SHAPES:
            for _ in range(12):
                many, width = chance.randint(1, 5), chance.randint(1, 3)
                learners = [(Learner(many, shape, width), [])]
                for _ in range(25):
                    learner, rows = chance.choice(learners)
                    way = chance.random()
                    if way < 0.5:
                        rows.append(tuple(chance.randint(0, 1) for _ in range(many)))
                        learner.tell(rows[-1])
                    elif way < 0.8:
                        if rows:
                            self.assertEqual(learner.take_back(), rows.pop())
                        else:
                            self.assertError(NothingToUndo, {}, learner.take_back)
                    elif len(learners) < 4:
                        twin = learner.copy()
                        self.assertIs(type(twin), Learner)
                        self.assertTrue(twin == learner)
                        learners.append((twin, list(rows)))
                    for learner, rows in learners:
                        self.check(learner, many, shape, width, rows, chance, 2)

    def test_bad_rows(self):
        chance = plain.chance_of(206)
        for shape in SHAPES:
            learner = Learner(2, shape, 2)
            learner.tell((0, 1))
            for value in ODD_VALUES + ((0, 1, 0), (1,), [0, 1], (0, True), (False, 1), (0, 2), (-1, 0), "01", {0: 0, 1: 1}):
                if plain.is_row(value, 2):
                    continue
                before = copy.deepcopy(value)
                for method in (learner.lets, learner.tell):
                    self.assertError(BadRow, {"given": value}, lambda: method(value))
                self.assertIs(value in learner, False)
                self.assertTrue(plain.same(value, before))
            self.check(learner, 2, shape, 2, [(0, 1)], chance)
            empty = Learner(2, shape, 2)
            self.assertError(NothingToUndo, {}, empty.take_back)
            self.check(empty, 2, shape, 2, [], chance)
        for value in ODD_VALUES:
            self.assertIs(value in Learner(1, "most", 1), False)

    def test_properties_are_only_read(self):
        learner = Learner(3, "most", 2)
        learner.tell((0, 1, 1))
        for word in ("many", "shape", "width", "guess", "told", "left"):
            before = getattr(learner, word)
            with self.assertRaises(AttributeError):
                setattr(learner, word, before)
            with self.assertRaises(AttributeError):
                delattr(learner, word)
            self.assertEqual(getattr(learner, word), before)
        told, guess = learner.told, learner.guess
        learner.tell((1, 1, 1))
        self.assertEqual(told, ((0, 1, 1),))
        self.assertNotEqual(learner.guess, guess)

    def test_equal(self):
        every = {}
        for many in (1, 2):
            for shape in SHAPES:
                for width in (1, 2, 3):
                    for rows in ([], [(0,) * many], [(1,) * many], [(0,) * many, (1,) * many]):
                        learner = Learner(many, shape, width)
                        for row in rows:
                            learner.tell(row)
                        key = (many, shape, learner.guess, None if shape == "odd" else width)
                        every[id(learner)] = (learner, key)
        for one, key in every.values():
            for other, its in every.values():
                self.assertIs(one == other, key == its)
                self.assertIs(one != other, key != its)
        learner = Learner(2, "both", 2)
        for value in ODD_VALUES + (learner.guess, learner.told, Learner, object(), BadRow((0,)), 1.5, {1, 2}):
            self.assertIs(learner == value, False)
            self.assertIs(learner != value, True)
            self.assertIs(value == learner, False)
        # Whatever rows both have been told.
        one, other = Learner(2, "most", 2), Learner(2, "most", 2)
        for row in ((0, 0), (1, 1)):
            one.tell(row)
        for row in ((1, 1), (0, 0), (0, 0)):
            other.tell(row)
        self.assertTrue(one == other)

    def some_case(self, chance, most):
        stock = chance.choice((
            plain.some_stock(chance), plain.kept_stock(chance, (chance.choice(plain.FIRM),)), LOW_ONLY, NO_WAY,
        ))
        return plain.some_case(chance, stock, chance.randint(1, most), 3)

    def test_against_and_beyond(self):
        chance = plain.chance_of(207)
        told = []
        for _ in range(250):
            case = self.some_case(chance, 5)
            before = copy.deepcopy(case)
            found = plain.answers(case)
            shape, width = chance.choice(SHAPES), chance.randint(1, 3)
            learner = Learner(case[1], shape, width)
            rows = [tuple(chance.randint(0, 1) for _ in range(case[1])) for _ in range(chance.randint(0, 2))]
            rows += chance.sample(found, chance.randint(0, len(found)))
            for row in rows:
                learner.tell(row)
            right = Told(case[1], shape, width, rows)
            barred = [row for row in found if not right.lets(row)]
            more = [row for row in plain.all_rows(case[1]) if right.lets(row) and row not in found]
            for _ in range(2):
                self.assertTrue(plain.same(against(case, learner), barred[0] if barred else None))
                self.assertTrue(plain.same(beyond(case, learner), more[0] if more else None))
            told.append((barred == [], more == []))
            self.assertEqual(learner.told, tuple(rows))
            self.assertTrue(plain.same(case, before))
        self.assertEqual(len(set(told)), 4)

    def test_learnt(self):
        chance = plain.chance_of(208)
        for _ in range(60):
            case = self.some_case(chance, 5)
            found = plain.answers(case)
            for shape in SHAPES:
                width = chance.randint(1, 3)
                rows = []
                while True:
                    right = Told(case[1], shape, width, rows)
                    barred = [row for row in found if not right.lets(row)]
                    if not barred:
                        break
                    rows.append(barred[0])
                self.assertTrue(plain.same(learnt(case, shape, width), (right.guess, len(rows))))
                # By the words of the point.
                learner = Learner(case[1], shape, width)
                while against(case, learner) is not None:
                    self.assertIs(learner.tell(against(case, learner)), True)
                self.assertEqual((learner.guess, len(learner)), learnt(case, shape, width))

    def test_eight_unknowns(self):
        chance = plain.chance_of(209)
        for stock in (plain.TYPICAL["both"], plain.TYPICAL["most"], plain.TYPICAL["odd"], NO_WAY):
            case = (stock, 8, tuple(plain.some_fact(chance, stock, 8) for _ in range(5)))
            for shape in SHAPES:
                guess, tells = learnt(case, shape, 3)
                learner = Learner(8, shape, 3)
                for row in plain.answers(case):
                    learner.tell(row)
                self.assertEqual(learner.guess, guess)
                self.assertIsNone(against(case, learner))
                self.assertLessEqual(tells, Learner(8, shape, 3).left)

    def test_too_hard_ahead_of_unfit(self):
        for unknowns in (9, 14, 15, 40):
            for stock in (NO_WAY, plain.TYPICAL["odd"]):
                case = (stock, unknowns, ())
                for learner in (Learner(8, "odd", 1), Learner(1, "any", 3)):
                    self.assertError(TooHard, {"size": unknowns}, lambda: against(case, learner))
                    self.assertError(TooHard, {"size": unknowns}, lambda: beyond(case, learner))
                self.assertError(TooHard, {"size": unknowns}, lambda: learnt(case, "odd", 1))
        for unknowns in (1, 3, 8):
            case = (NO_WAY, unknowns, ())
            for many in range(1, 9):
                if many != unknowns:
                    self.assertError(Unfit, {}, lambda: against(case, Learner(many, "both", 2)))
                    self.assertError(Unfit, {}, lambda: beyond(case, Learner(many, "both", 2)))

    def test_by_name(self):
        learner = Learner(width=2, shape="most", many=2)
        self.assertIs(learner.tell(row=(0, 1)), True)
        self.assertIs(learner.lets(row=(1, 1)), False)
        case = ((EXAMPLES["X"],), 2, ((0, (0, 1)),))
        self.assertEqual(against(learner=learner, case=case), (1, 0))
        self.assertIsNone(beyond(learner=learner, case=case))
        self.assertEqual(learnt(width=1, shape="odd", case=case), ((((0, 1), 1),), 2))


if __name__ == "__main__":
    unittest.main()
