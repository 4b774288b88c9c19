"""[N5]: desks that always have an answer."""

import unittest

import plain
from modeldesk import Case, K, Model, some_stock
from plain import EXAMPLES, FIRM, LOW_ONLY, NO_WAY
from sixkeepers.desks import Desk, OpenDesk
from sixkeepers.errors import KeeperError, NoAnswers, NotOne
from sixkeepers.solving import refute, refutes

X = EXAMPLES["X"]


class OpenDesks(Case):
    def assertRefused(self, case, function):
        super().assertRefused(case, function)
        self.assertIs(refutes(case, refute(case)), True)

    def test_class(self):
        self.assertTrue(issubclass(OpenDesk, Desk))
        self.assertIsNot(OpenDesk, Desk)

    def test_by_chance(self):
        chance = plain.chance_of(241)
        seen = []
        for _ in range(60):
            stock, unknowns = some_stock(chance), chance.randint(1, 4)
            model = Model(stock, unknowns)
            model.open_only = True
            desk = OpenDesk(stock, unknowns)
            seen += self.walk(chance, desk, model, 35)
            self.assertIs(desk.is_open(), True)
        self.assertNotIn("none", seen)
        self.assertNotIn("answers", seen)
        for word in ("NoAnswers", "fewer", "more", "other", "same", "undo", "back", "BadText", "Rejected"):
            self.assertGreater(seen.count(word), 20, word)

    def test_each_edit_is_refused(self):
        desk = OpenDesk(((1, ((0,),)), (1, ((1,),)), X), 3)
        desk.add(0, (0,))
        desk.add(2, (0, 1))
        desk.add(1, (1,))
        before = (desk.case, desk.names, desk.version, desk.news)
        stock, many, facts = desk.case
        called = []
        for word in ("none", "same", "fewer", "other"):
            desk.watch(word, called.append)
        self.assertRefused((stock, many, facts + ((1, (0,)),)), lambda: desk.add(1, (0,)))
        self.assertRefused((stock, many, ((1, (0,)),) + facts[1:]), lambda: desk.put(0, 1, (0,)))
        wrong = facts + ((1, (0,)), (0, (2,)))
        self.assertRefused((stock, many, wrong), lambda: desk.batch((("name", 0, "on"), ("add", 1, (0,)), ("add", 0, (2,)))))
        self.assertTrue(plain.same((desk.case, desk.names, desk.version, desk.news), before))
        self.assertEqual(called, [])
        # Within a batch there may be no answer, only behind it there must be one.
        self.assertEqual(desk.batch((("add", 1, (0,)), ("drop", 0), ("drop", 0))), 4)
        self.assertEqual(desk.facts, ((1, (1,)), (1, (0,))))
        self.assertEqual(desk.undo(), 3)
        self.assertEqual(desk.back(0), 0)

    def test_behind_all_other_errors(self):
        desk = OpenDesk(((1, ((0,),)), (1, ((1,),))), 2)
        desk.add(0, (0,))
        self.assertError("NoUnknown", (2,), lambda: desk.add(1, (2,)))
        self.assertError("Rejected", (1,), lambda: desk.batch((("add", 1, (0,)), ("drop", 7))))
        self.assertError("BadBatch", (), lambda: desk.batch((("add", 1, (0,)), ("drop",))))
        for _ in range(3):
            desk.batch((("add", 0, (0,)),) * 20)
        desk.batch((("add", 0, (0,)),) * 19)
        self.assertError("Unfit", (), lambda: desk.add(1, (0,)))
        while desk.version < 30:
            desk.name(0, "x0")
        self.assertError("TooManyEdits", (), lambda: desk.put(3, 1, (0,)))
        desk.undo()
        self.assertRefused((desk.stock, 2, desk.facts[:3] + ((1, (0,)),) + desk.facts[4:]), lambda: desk.put(3, 1, (0,)))

        def watcher(version):
            self.assertError("Busy", (), lambda: desk.put(3, 1, (0,)))
        desk.watch("same", watcher)
        desk.name(1, "a")

    def test_great(self):
        chance = plain.chance_of(242)
        for word in FIRM:
            stock = plain.kept_stock(chance, (word,), (1, 2, 3, 4))
            desk, refused = OpenDesk(stock, 40), 0
            for _ in range(300):
                try:
                    desk.add(*plain.some_fact(chance, stock, 40))
                except NoAnswers as error:
                    refused += 1
                    self.assertIsNotNone(error.reason)
                except KeeperError:
                    desk.back(chance.randrange(30))
                self.assertIs(desk.is_open(), True)
            self.assertTrue(refused > 0 or len(desk) > 0)

    def test_in_attempts(self):
        desk = OpenDesk(K, 2)

        def work(one):
            one.add(1, (0,))
            one.add(0, (0, 0))
        with self.assertRaises(NoAnswers):
            desk.attempt(work, None)
        self.assertEqual((desk.version, desk.facts, desk.news), (0, (), "same"))

    def test_copy_and_beside(self):
        bars = ((1, ((0,),)), (1, ((1,),)))
        open_one, plain_one, closed = OpenDesk(bars, 2), Desk(bars, 2), Desk(bars, 3)
        open_one.add(0, (1,))
        plain_one.add(1, (0,))
        closed.batch((("add", 0, (2,)), ("add", 1, (2,))))
        self.assertIs(type(open_one.copy()), OpenDesk)
        self.assertIs(type(plain_one.copy()), Desk)
        twin = open_one.copy()
        self.assertEqual(twin.add(0, (0,)), 2)
        self.assertRefused((bars, 2, twin.facts + ((1, (0,)),)), lambda: twin.add(1, (0,)))
        both = open_one.beside(plain_one)
        self.assertIs(type(both), OpenDesk)
        self.assertEqual((both.facts, both.version, both.news), (((0, (1,)), (1, (2,))), 0, "same"))
        self.assertRefused((bars, 4, both.facts + ((0, (2,)),)), lambda: both.add(0, (2,)))
        self.assertEqual((both.add(0, (3,)), both.undo(), both.at(0)), (1, 0, (both.case, both.names)))
        self.assertIs(type(plain_one.beside(open_one)), Desk)
        self.assertIs(plain_one.beside(closed).is_open(), False)
        whole = (bars, 5, ((0, (1,)), (0, (4,)), (1, (4,))))
        self.assertRefused(whole, lambda: open_one.beside(closed))
        # A desk beside has an answer at its version 0, so undo never leads out of it.
        self.assertError("NothingToUndo", (), both.undo)

    def test_errors_of_beside(self):
        stock = NO_WAY + ((1, ((0,),)), (1, ((1,),)))
        desk, closed = OpenDesk(stock, 8), Desk(stock, 7)
        closed.batch((("add", 1, (0,)), ("add", 2, (0,))))
        self.assertError("TooHard", (15,), lambda: desk.beside(closed))
        self.assertRaises(NotOne, lambda: desk.beside(Desk(NO_WAY, 2)))
        for _ in range(4):
            closed.batch((("add", 1, (0,)),) * 19)
        closed.batch((("add", 1, (0,)),) * 2)
        self.assertEqual(len(closed), 80)
        desk.add(1, (0,))
        self.assertError("Unfit", (), lambda: desk.beside(closed))
        small = OpenDesk(stock, 2)
        self.assertRefused((stock, 9, tuple((index, (places[0] + 2,)) for index, places in closed.facts)),
            lambda: small.beside(closed))
        self.assertError("TooHard", (16,), lambda: desk.beside(desk))

    def test_refutations_of_all_sorts(self):
        for stock, edits, sort in (
            ((X,), ((0, (0, 1)), (0, (1, 2)), (0, (0, 2))), "split"),
            ((plain.rows_of_sum(2, 1), plain.rows_of_sum(3, 0)), ((0, (0, 1)), (0, (1, 2)), (0, (0, 2))), "sums"),
            (plain.TYPICAL["both"], ((4, (0,)), (3, (0, 0))), "clash"),
            (NO_WAY, ((0, (0, 0, 0)),), "clash"),
        ):
            desk = OpenDesk(stock, 3)
            for fact in edits[:-1]:
                desk.add(*fact)
            with self.assertRaises(NoAnswers) as caught:
                desk.add(*edits[-1])
            self.assertTrue(plain.same(caught.exception.reason, refute((stock, 3, edits))))
            self.assertIn(caught.exception.reason[0], (sort, "sums"))


if __name__ == "__main__":
    unittest.main()
