"""[A2]: what the whole program tells of one and the same case goes together."""

import copy
import unittest

import plain
from plain import EXAMPLES, FIRM, HIGH_ONLY, LOW_ONLY, NO_WAY
from sixkeepers import follows
from sixkeepers.clauses import case_clauses, form, said
from sixkeepers.counting import answer_at, answers, cheapest, count, farthest, nearest, number_of, spread, yes_counts
from sixkeepers.desks import Desk, OpenDesk
from sixkeepers.errors import NoAnswers, NoNumber
from sixkeepers.following import chain, chain_holds, follow
from sixkeepers.forms import case_error, is_answer
from sixkeepers.islands import high_end, island, island_count, islands, loose, low_end, together
from sixkeepers.keepers import KEEPERS, all_keepers, keeps, kept_by, laid, way
from sixkeepers.learning import Learner, against, beyond, learnt
from sixkeepers.making import reach, reaches
from sixkeepers.partings import apart, is_apart
from sixkeepers.sayings import broken_by, sayable
from sixkeepers.shells import Shell
from sixkeepers.solving import answer, answer_with, greatest_answer, least_answer, refute, refutes
from sixkeepers.sums import case_sums, said_sums, sum_count, sums_of
from sixkeepers.texts import case_text, parse_case
from sixkeepers.turnchecker import is_lost_paper
from sixkeepers.turnpapers import lost_paper
from sixkeepers.turns import good, hinges, turns_error, won, won_from
from sixkeepers.walks import hops, is_walk, walk, walk_to

SHAPES = ("any", "both", "either", "most", "odd")


def some_stock(chance):
    if chance.random() < 0.7:
        return chance.choice((plain.kept_stock, plain.sparse_stock))(chance, (chance.choice(FIRM),))
    return chance.choice((LOW_ONLY, HIGH_ONLY, NO_WAY, plain.some_stock(chance)))


class Whole(unittest.TestCase):
    def cases(self, number, many, unknowns=6, facts=(1, 2, 3, 5)):
        chance = plain.chance_of(number)
        for _ in range(many):
            yield chance, plain.some_case(chance, some_stock(chance), chance.randint(1, unknowns), chance.choice(facts))

    def test_answers_and_what_is_told_of_them(self):
        kinds = set()
        for chance, case in self.cases(261, 300):
            before = copy.deepcopy(case)
            self.assertIsNone(case_error(case))
            rows = list(answers(case))
            self.assertEqual(rows, plain.answers(case))
            refutation = refute(case)
            self.assertIs(answer(case) is None, not rows)
            self.assertIs(refutation is None, bool(rows))
            self.assertTrue(refutation is None or refutes(case, refutation))
            told = (least_answer(case), greatest_answer(case), count(case), sum(spread(case)))
            self.assertEqual(told, (rows[0] if rows else None, rows[-1] if rows else None, len(rows), len(rows)))
            self.assertEqual(chain(case, ())[1] is None, follow(case, ()) is not None)
            self.assertIs(chain_holds(case, (), chain(case, ())), True)
            self.assertTrue(all(answer_at(case, k) == row and number_of(case, row) == k for k, row in enumerate(rows)))
            self.assertRaises(NoNumber, lambda: answer_at(case, len(rows)))
            kinds.add((way(case[0]), bool(rows)))
            if not rows:
                self.assert_without_answers(case)
            else:
                self.assert_with_answers(chance, case, rows)
            self.assertTrue(plain.same(case, before))
        self.assertGreater(len(kinds), 9)

    def assert_without_answers(self, case):
        many = case[1]
        with self.assertRaises(NoAnswers) as caught:
            follows.forced(case)
        self.assertTrue(plain.same(caught.exception.reason, refute(case)))
        self.assertEqual((follows.seen_rows(case, (0,)), islands(case), island_count(case)), ((), (), 0))
        self.assertEqual(loose(case), tuple(range(many)))
        self.assertIsNone(nearest(case, (0,) * many))
        self.assertIs(won(case, ("some",) * many), False)
        self.assertEqual(follows.core_holds(case, follows.core(case)), True)
        for shape in SHAPES:
            self.assertEqual(learnt(case, shape, 2), (Learner(many, shape, 2).guess, 0))

    def assert_with_answers(self, chance, case, rows):
        many = case[1]
        forced = dict(follows.forced(case))
        yes = yes_counts(case)
        for unknown in range(many):
            seen = [row[0] for row in follows.seen_rows(case, (unknown,))]
            self.assertEqual(seen, sorted({row[unknown] for row in rows}))
            self.assertEqual(forced.get(unknown), seen[0] if len(seen) == 1 else None)
            self.assertEqual(yes[unknown] in (0, len(rows)), unknown in forced)
            for value in (0, 1):
                found = answer_with(case, ((unknown, value),))
                self.assertEqual(found is not None, value in seen)
        row = chance.choice(rows)
        self.assertEqual(nearest(case, row), (0, row))
        self.assertEqual(farthest(case, row)[0], many - nearest(case, tuple(1 - item for item in row))[0])
        self.assertEqual(cheapest(case, (1,) * many)[0], nearest(case, (0,) * many)[0])
        self.assertIsNone(follows.core(case))
        self.assertIs(won(case, ("some",) * many), True)
        self.assertIs(won(case, ("all",) * many), len(rows) == 2 ** many)
        self.assertEqual(len(follows.trimmed(case)) <= len(case[2]), True)
        trimmed = case[:2] + (tuple(case[2][number] for number in follows.trimmed(case)),)
        self.assertEqual(list(answers(trimmed)), rows)

    def test_keepers_keep_answers(self):
        for chance, case in self.cases(262, 150):
            rows = list(answers(case))
            names = kept_by(case[0])
            for name, operation in KEEPERS:
                if name in names:
                    self.assert_keeps(chance, operation, case, rows)
            for many in (1, 2):
                every = all_keepers(case[0], many)
                for operation in chance.sample(every, min(4, len(every))):
                    self.assert_keeps(chance, operation, case, rows)

    def assert_keeps(self, chance, operation, case, rows):
        for _ in range(6 if rows else 0):
            some = tuple(chance.choice(rows) for _ in range(plain.thing_count(operation)))
            self.assertIs(is_answer(case, laid(operation, some)), True)

    def test_clauses_and_sums(self):
        for chance, case in self.cases(263, 150, 5):
            rows = list(answers(case))
            names = kept_by(case[0])
            for word in ("any", "both", "either", "most"):
                if word == "any" or word in names:
                    clauses = case_clauses(case, word)
                    self.assertEqual(plain.clauses_rows(case[1], clauses), tuple(rows))
                    if len(clauses) <= 60:
                        told = reach(case[1], clauses, ((), ()))
                        self.assertEqual(told[0], "row" if rows else "steps")
                        self.assertIs(reaches(case[1], clauses, ((), ()), told), True)
            if "odd" in names:
                self.assertEqual(sum_count(case[1], case_sums(case)), len(rows))
            for relation in case[0]:
                for word in ("both", "either", "most"):
                    keeper = dict(KEEPERS)[word]
                    self.assertIs(said(relation[0], form(relation, word)) == relation, keeps(keeper, relation))
                self.assertIs(said_sums(relation[0], sums_of(relation)) == relation, keeps(dict(KEEPERS)["odd"], relation))

    def test_what_answers_have_can_be_said(self):
        # The rows that answers have at some places are a relation that the stock can say.
        for chance, case in self.cases(264, 60, 4):
            places = tuple(chance.randrange(case[1]) for _ in range(chance.randint(1, 3)))
            relation = (len(places), follows.seen_rows(case, places))
            self.assertIs(sayable(case[0], relation), True)
            self.assertIsNone(broken_by(case[0], relation))
            self.assertIs(follows.follows(case, relation, places), True)
            self.assertIsNone(follows.against(case, relation, places))

    def test_games(self):
        for chance, case in self.cases(265, 200, 5):
            turns = plain.some_turns(chance, case[1])
            self.assertIsNone(turns_error(case, turns))
            paper = lost_paper(case, turns)
            self.assertIs(paper is None, won(case, turns))
            self.assertIs(is_lost_paper(case, turns, paper), paper is not None)
            begin = ()
            while len(begin) < case[1]:
                fit = good(case, turns, begin)
                wins = won_from(case, turns, begin)
                self.assertIs((fit != ()) == (turns[len(begin)] == "some"), wins)
                begin += (chance.choice(fit or (0, 1)),)
            self.assertIs(won_from(case, turns, begin), is_answer(case, begin))
            self.assertTrue(all((turns[k] == "some") == won(case, turns) for k in hinges(case, turns)))
            # With more of the turns "some" wins, too; with all of them, if there is an answer.
            if won(case, turns):
                more = tuple("some" if chance.random() < 0.5 else word for word in turns)
                self.assertIs(won(case, more), True)
                self.assertIsNotNone(answer(case))

    def test_walks_islands_and_partings(self):
        for chance, case in self.cases(266, 250):
            rows = list(answers(case))
            every = islands(case)
            self.assertEqual(sorted(row for one in every for row in one), rows)
            self.assertEqual(island_count(case), len(every))
            for _ in range(5 if rows else 0):
                one, other = chance.choice(rows), chance.choice(rows)
                way_there, parting = walk(case, one, other), apart(case, one, other)
                self.assertTrue((way_there is None) != (parting is None))
                self.assertIs(together(case, one, other), parting is None)
                self.assertIs(other in island(case, one), parting is None)
                if parting is None:
                    self.assertIs(is_walk(case, way_there), True)
                    self.assertEqual((way_there[0], way_there[-1]), (one, other))
                    self.assertEqual(low_end(case, one), low_end(case, other))
                    self.assertEqual(high_end(case, one), high_end(case, other))
                else:
                    self.assertIs(is_apart(case, one, other, parting), True)
                self.assertTrue(set(loose(case)) <= set(hops(case, one)))
                for unknown in range(case[1]):
                    near = walk_to(case, one, unknown)
                    self.assertEqual(near is None, all(row[unknown] == one[unknown] for row in island(case, one)))
                    self.assertEqual(unknown in hops(case, one), near is not None and len(near) == 2)

    def test_learners(self):
        for chance, case in self.cases(267, 120, 5):
            rows = list(answers(case))
            names = kept_by(case[0])
            for shape in SHAPES:
                guess, tells = learnt(case, shape, 3)
                learner = Learner(case[1], shape, 3)
                for row in chance.sample(rows, len(rows)):
                    learner.tell(row)
                self.assertEqual((learner.guess, against(case, learner)), (guess, None))
                self.assertLessEqual(tells, len(rows))
                more = beyond(case, learner)
                self.assertIs(more is None, [row for row in plain.all_rows(case[1]) if row in learner] == rows)
                # Clauses of two places are enough where "most" keeps the stock, sums where "odd" does.
                if shape in ("most", "odd") and shape in names:
                    self.assertIsNone(more)
            if "odd" in names and rows:
                self.assertEqual(learnt(case, "odd", 1)[0], case_sums(case))

    def test_texts_desks_and_shells(self):
        for chance, case in self.cases(268, 120):
            self.assertTrue(plain.same(parse_case(case_text(case)), case))
            rows = list(answers(case))
            desk = Desk(case[0], case[1])
            for fact in case[2]:
                desk.add(*fact)
            self.assertTrue(plain.same(desk.case, case))
            self.assertEqual((desk.is_open(), desk.first()), (bool(rows), least_answer(case)))
            shell = Shell(desk)
            self.assertEqual(shell.say("count"), str(len(rows)))
            if rows:
                self.assertEqual(desk.forced(), follows.forced(case))
                line = "".join(str(item) for item in rows[0])
                told = " ".join(f"x{unknown}={value}" for unknown, value in follows.forced(case)) or "nothing"
            else:
                line = told = "none"
            self.assertEqual((shell.say("answer"), shell.say("forced")), (line, told))
            both = desk.beside(desk)
            self.assertEqual(count(both.case) if both.unknowns <= 10 else len(rows) ** 2, len(rows) ** 2)
            self.check_open_desk(case)
            desk.back(0)
            self.assertEqual(desk, Desk(case[0], case[1]))

    def check_open_desk(self, case):
        desk = OpenDesk(case[0], case[1])
        for number, fact in enumerate(case[2]):
            ahead = case[:2] + (case[2][:number + 1],)
            if answer(ahead) is None:
                with self.assertRaises(NoAnswers) as caught:
                    desk.add(*fact)
                self.assertIs(refutes(ahead, caught.exception.reason), True)
                return
            self.assertEqual(desk.add(*fact), number + 1)
        self.assertEqual(desk.case, case)

    def test_what_hangs_on_answers_alone(self):
        # The same answers, told by other facts: in another order, some of them twice, or by what follows.
        for chance, case in self.cases(269, 120, 5):
            facts = list(case[2]) + chance.sample(case[2], min(2, len(case[2])))
            chance.shuffle(facts)
            other = case[:2] + (tuple(facts),)
            rows = list(answers(case))
            turns = plain.some_turns(chance, case[1])
            for function in (
                count, yes_counts, spread, least_answer, greatest_answer, islands, island_count, loose,
                lambda one: list(answers(one)), lambda one: won(one, turns), lambda one: hinges(one, turns),
                lambda one: follows.seen_rows(one, (0, 0)), lambda one: nearest(one, (1,) * case[1]),
                lambda one: learnt(one, "either", 2), lambda one: good(one, turns, ()),
                lambda one: (follows.forced(one), follows.alike(one)) if rows else None,
                lambda one: [(hops(one, row), low_end(one, row), high_end(one, row)) for row in rows[:3]],
            ):
                self.assertTrue(plain.same(function(case), function(other)))

    def test_the_same_behind_other_calls(self):
        chance = plain.chance_of(270)
        calls = []
        for _ in range(40):
            case = plain.some_case(chance, some_stock(chance), chance.randint(1, 5), 3)
            turns = plain.some_turns(chance, case[1])
            calls += [(function, (case,)) for function in (answer, refute, case_text, islands, loose, follows.core)]
            calls += [(lost_paper, (case, turns)), (learnt, (case, "any", 2)), (chain, (case, ()))]
            rows = plain.answers(case)
            if rows:
                pair = (chance.choice(rows), chance.choice(rows))
                calls += [(walk, (case,) + pair), (apart, (case,) + pair), (walk_to, (case, pair[0], 0))]
        first = [function(*given) for function, given in calls]
        order = list(range(len(calls)))
        for _ in range(2):
            chance.shuffle(order)
            for at in order:
                function, given = calls[at]
                self.assertTrue(plain.same(function(*copy.deepcopy(given)), first[at]))


if __name__ == "__main__":
    unittest.main()
