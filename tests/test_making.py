"""[C3]: steps to clauses."""

import copy
import unittest

import plain
from plain import ODD_VALUES
from sixkeepers.making import reach, reaches

C = (((0,), ()), ((1,), (0,)))
WANTED = ((1,), ())
STEPS = (("told", 0), ("told", 1), ("joined", 0, 1, 0))


def plain_reaches(many, clauses, clause, value):
    """By the words of the document, for a pair of a word and any value."""
    word, paper = value
    if word == "row":
        right = isinstance(paper, tuple) and len(paper) == many and all(type(item) is int and item in (0, 1)
            for item in paper)
        return right and all(plain.holds_clause(one, paper) for one in clauses) and not plain.holds_clause(clause,
            paper)
    if word != "steps" or not isinstance(paper, tuple):
        return False
    ahead = []
    for item in paper:
        if not isinstance(item, tuple) or not item or any(type(part) is not int for part in item[1:]):
            return False
        if item[0] == "told" and len(item) == 2 and 0 <= item[1] < len(clauses):
            ahead.append(clauses[item[1]])
        elif item[0] == "joined" and len(item) == 4 and all(0 <= index < len(ahead) for index in item[1:3]):
            one, other, place = ahead[item[1]], ahead[item[2]], item[3]
            if place not in one[0] or place not in other[1]:
                return False
            yes = set(one[0]) - {place} | set(other[0])
            no = set(one[1]) | set(other[1]) - {place}
            if yes & no:
                return False
            ahead.append((tuple(sorted(yes)), tuple(sorted(no))))
        else:
            return False
    return bool(ahead) and plain.within(ahead[-1], clause)


def some_clauses(chance, many, count, most=3):
    return tuple(plain.some_clause(chance, many, most) for _ in range(count))


class Reach(unittest.TestCase):
    def check(self, many, clauses, clause):
        before = copy.deepcopy((clauses, clause))
        told = reach(many, clauses, clause)
        rows = [row for row in plain.clauses_rows(many, clauses) if not plain.holds_clause(clause, row)]
        self.assertIs(type(told), tuple)
        self.assertEqual(told[0], "row" if rows else "steps")
        self.assertTrue(plain_reaches(many, clauses, clause, told), told)
        self.assertIs(reaches(many, clauses, clause, told), True)
        self.assertTrue(plain.same(reach(many, clauses, clause), told))
        self.assertTrue(plain.same((clauses, clause), before))
        return told

    def test_example(self):
        told = [
            reach(2, C, WANTED)[0], reaches(2, C, WANTED, ("steps", STEPS)), reach(2, (((0, 1), ()),), ((0,), ())),
        ]
        self.assertEqual(told, ["steps", True, ("row", (0, 1))])

    def test_small(self):
        chance = plain.chance_of(61)
        for many in (1, 2, 3):
            every = plain.all_clauses(many)
            for _ in range(150):
                clauses = tuple(chance.choice(every) for _ in range(chance.randint(0, 6)))
                for clause in chance.sample(every, min(6, len(every))):
                    self.check(many, clauses, clause)

    def test_greater(self):
        chance = plain.chance_of(62)
        words = []
        for _ in range(250):
            many = chance.randint(4, 8)
            clauses = some_clauses(chance, many, chance.choice((3, 8, 15, 25, 40)))
            words.append(self.check(many, clauses, plain.some_clause(chance, many, 3))[0])
        self.assertTrue({"steps", "row"} == set(words) and min(map(words.count, ("steps", "row"))) > 40)

    def test_ten_places_and_sixty_clauses(self):
        chance = plain.chance_of(63)
        for most in (3, 4, 5):
            for _ in range(6):
                clauses = some_clauses(chance, 10, 60, most)
                self.check(10, clauses, ((), ()))
                self.check(10, clauses, plain.some_clause(chance, 10, 4))

    def test_all_clauses_of_all_places(self):
        # All signs of five places, in any order: there is no row, and only all of them show it.
        chance = plain.chance_of(64)
        clauses = [(yes, tuple(sorted(set(range(5)) - set(yes)))) for yes in plain.all_subsets(range(5))]
        chance.shuffle(clauses)
        self.check(5, tuple(clauses), ((), ()))
        self.check(10, tuple(clauses + clauses[:28]), ((9,), (7,)))
        self.check(5, tuple(clauses[1:]), ((), ()))
        self.check(10, tuple(clauses[1:]), ((), ()))

    def test_edges(self):
        self.assertEqual(self.check(1, (), ((), ()))[0], "row")
        self.assertEqual(self.check(10, (), ((9,), (0,)))[0], "row")
        self.assertEqual(self.check(2, (), ((0,), (1,))), ("row", (0, 1)))
        self.assertEqual(self.check(10, (((), ()),), ((), ()))[0], "steps")
        self.assertEqual(self.check(10, (((0,), ()), ((), ())), ((3,), ()))[0], "steps")
        self.assertEqual(self.check(3, (((0,), ()),) * 60, ((0,), (2,)))[0], "steps")
        self.assertEqual(self.check(3, (((0,), ()), ((), (0,))), ((), ()))[0], "steps")
        self.assertEqual(self.check(3, (((0,), ()), ((), (0,))), ((1,), (2,)))[0], "steps")

    def test_a_chain(self):
        links = (((0,), ()),) + tuple(((k + 1,), (k,)) for k in range(9))
        told = self.check(10, links[::-1], ((9,), ()))
        self.assertEqual(told[0], "steps")
        self.assertEqual(self.check(10, links[1:], ((9,), ()))[0], "row")
        self.assertEqual(self.check(10, links[1:], ((9,), (0,)))[0], "steps")


class Reaches(unittest.TestCase):
    def test_by_hand(self):
        for steps in (
            STEPS, (("told", 1), ("told", 0), ("joined", 1, 0, 0)),
            (("told", 0),) * 3 + (("told", 1), ("joined", 2, 3, 0)),
            STEPS + (("told", 0), ("joined", 3, 1, 0)), (("told", 1),) + STEPS[:1] + (("joined", 1, 0, 0),
                ("told", 1), ("joined", 1, 3, 0)),
        ):
            self.assertIs(reaches(2, C, WANTED, ("steps", steps)), True, steps)
        self.assertIs(reaches(2, C, ((0, 1), ()), ("steps", STEPS)), True)
        self.assertIs(reaches(2, C, ((0,), ()), ("steps", STEPS)), False)
        self.assertIs(reaches(2, C, ((1,), (0,)), ("steps", (("told", 1),))), True)
        self.assertIs(reaches(2, C, WANTED, ("steps", STEPS + (("told", 0),))), False)
        self.assertIs(reaches(2, (((0, 1), ()),), ((0,), ()), ("row", (0, 1))), True)

    def test_wrong_steps(self):
        for steps in (
            (), STEPS[:2], (("told", 2),), (("told", -1),), STEPS[:2] + (("joined", 0, 2, 0),),
            STEPS[:2] + (("joined", 2, 1, 0),),
            STEPS[:2] + (("joined", 1, 0, 0),), STEPS[:2] + (("joined", 0, 1, 1),), STEPS[:2] + (("joined", -2, 1, 0),),
            STEPS[:2] + (("joined", 0, -1, 0),), STEPS[:2] + (("joined", 0, 1, -2),),
            STEPS[:2] + (("joined", 0, 1, 2),),
            STEPS[:2] + (("joined", False, 1, 0),), STEPS[:2] + (("joined", 0, True, 0),),
            STEPS[:2] + (("joined", 0, 1, False),),
            (("told", False),) + STEPS[1:], (["told", 0],) + STEPS[1:], list(STEPS), STEPS[:2] + (["joined", 0, 1, 0],),
            STEPS[:2] + (("joined", 0, 1),), STEPS[:2] + (("joined", 0, 1, 0, 0),), STEPS[:2] + (("told", 0, 1, 0),),
            STEPS[:2] + (("joined", 0),), (("tell", 0),), ((0, 0),), (None,), ((),), (("told", "0"),),
            (("told", 10 ** 50),),
            STEPS[:2] + (("joined", 0, 10 ** 50, 0),), (("told",),), ("told", 0), STEPS[:2] + (("joined", 0, 1, (0,)),),
        ):
            self.assertIs(reaches(2, C, WANTED, ("steps", steps)), False, steps)

    def test_a_place_left_in_both(self):
        clauses = (((0, 1), ()), ((), (0, 1)))
        for place in (0, 1):
            steps = (("told", 0), ("told", 1), ("joined", 0, 1, place))
            self.assertIs(reaches(3, clauses, ((2,), ()), ("steps", steps)), False)
            self.assertIs(reaches(3, clauses, ((0, 1), ()), ("steps", steps + (("told", 0),))), False)

    def test_a_place_that_does_not_stand_in_both(self):
        for clauses, place in (
            ((((0,), ()), ((0,), ())), 1), ((((0, 1), ()), ((0,), ())), 1), ((((0,), ()), ((0,), (1,))), 1),
            ((((0,), ()), ((0, 1), ())), 1), ((((0,), (1,)), ((0,), ())), 1),
        ):
            steps = (("told", 0), ("told", 1), ("joined", 0, 1, place))
            self.assertIs(reaches(2, clauses, ((0,), (1,)), ("steps", steps)), False, clauses)
            self.assertIs(reaches(2, clauses, ((0, 1), ()), ("steps", steps)), False, clauses)
            self.assertIs(reaches(2, clauses, ((0,), ()), ("steps", steps)), False, clauses)
        right = (((0, 1), ()), ((0,), (1,)))
        self.assertIs(reaches(2, right, ((0,), ()), ("steps", (("told", 0), ("told", 1), ("joined", 0, 1, 1)))), True)

    def test_wrong_rows(self):
        clauses, clause = (((0, 1), ()),), ((0,), ())
        for row in ((1, 1), (0, 0), (1, 0), (0,), (0, 1, 0), [0, 1], (False, 1), (0, True), (0, 2), (), None, "01", 1):
            self.assertIs(reaches(2, clauses, clause, ("row", row)), False, row)
        self.assertIs(reaches(2, clauses, clause, ("row", (0, 1), 0)), False)
        self.assertIs(reaches(2, clauses, clause, ["row", (0, 1)]), False)
        self.assertIs(reaches(2, clauses, clause, ("rows", (0, 1))), False)

    def test_other_values(self):
        for value in ODD_VALUES:
            self.assertIs(reaches(2, C, WANTED, value), False)
            for word in ("steps", "row", value):
                self.assertIs(reaches(2, C, WANTED, (word, value)), False)
                self.assertIs(reaches(2, C, WANTED, (word, (value,))), False)
            self.assertIs(reaches(2, C, WANTED, ("steps", STEPS[:2] + (value,))), False)
            self.assertIs(reaches(2, C, WANTED, ("steps", (("told", value),))), False)

    def test_bent(self):
        chance = plain.chance_of(65)
        rights = 0
        for _ in range(3000):
            many = chance.randint(2, 5)
            clauses = some_clauses(chance, many, chance.randint(2, 12), 2)
            clause = plain.some_clause(chance, many, 2)
            word, paper = reach(many, clauses, clause)
            value = (word, plain.replaced(paper, chance))
            right = plain_reaches(many, clauses, clause, value)
            rights += right
            self.assertIs(reaches(many, clauses, clause, value), right, (clauses, clause, value))
        self.assertGreater(rights, 50)


if __name__ == "__main__":
    unittest.main()
