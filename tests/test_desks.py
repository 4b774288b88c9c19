"""[N1] to [N4]: desks."""

import copy
import time
import unittest

import plain
from modeldesk import FIELDS, WORDS, Case, K, Model, news_between, some_edit, some_stock
from plain import EXAMPLES, FIRM, HIGH_ONLY, LOW_ONLY, NO_WAY, ODD_VALUES
from sixkeepers.desks import Desk, OpenDesk
from sixkeepers.errors import BadStock, Busy, KeeperError, NoNumber, NotOne, NoVersion, TooHard, TooManyEdits, Unfit
from sixkeepers.forms import stock_error

X, T = EXAMPLES["X"], EXAMPLES["T"]
EVERY = (2, ((0, 0), (0, 1), (1, 0), (1, 1)))


class Made(Case):
    def test_examples(self):
        d = Desk(K, 3)
        told = [
            str(d), d.add(0, (0, 1)), d.news, d.forced(), d.add(1, (0,)), d.forced(), d.name(1, "on"), d.names, d.news,
            d.version, len(d), d[1],
        ]
        right = [
            "3 unknowns, 0 facts, by either, version 0", 1, "fewer", (), 2, ((0, 0), (1, 1)), 3, ("x0", "on", "x2"),
            "same", 3, 2, (1, (0,)),
        ]
        self.assertTrue(plain.same(told, right))
        told = [
            d.batch((("drop", 0), ("add", 1, (1,)))), d.forced(), d.news, d.undo(), d.add(1, (1,)), d.is_open(),
            d.first(), d.forced(), d.news, d.back(0), d.news, d.facts,
        ]
        right = [4, ((0, 0), (1, 0)), "other", 3, 4, False, None, None, "none", 0, "answers", ()]
        self.assertTrue(plain.same(told, right))
        o = OpenDesk(K, 2)
        told = [o.add(0, (0, 0)), o.forced(), o.beside(o).facts, o == Desk(K, 2), o.at(0)]
        right = [
            1, ((0, 1),), ((0, (0, 0)), (0, (2, 2))), False,
            ((((2, ((0, 1), (1, 0), (1, 1))), (1, ((0,),))), 2, ()), ("x0", "x1")),
        ]
        self.assertTrue(plain.same(told, right))
        self.assertError("Rejected", (1,), lambda: d.batch((("add", 0, (0, 1)), ("add", 2, (0, 1)))))

    def test_errors_of_the_class(self):
        for kind in (Desk, OpenDesk):
            for stock in ODD_VALUES + ((X, (1, ())), (X,) * 7, [X], (X, (2, ((1, 0), (0, 1)))), ((1, ((True,),)),)):
                for unknowns in (3, 0, None, True, 41):
                    self.assertError("BadStock", (stock_error(stock),), lambda: kind(stock, unknowns))
            for stock in (K, NO_WAY, LOW_ONLY):
                for unknowns in ODD_VALUES + (0, -1, 41, 10 ** 39):
                    if type(unknowns) is not int or not 1 <= unknowns <= 40:
                        self.assertError("NoNumber", (unknowns,), lambda: kind(stock, unknowns))
            for stock in (NO_WAY, LOW_ONLY, HIGH_ONLY, NO_WAY + (EVERY,)):
                for unknowns in (15, 40):
                    self.assertError("TooHard", (unknowns,), lambda: kind(stock, unknowns))
                self.assertEqual(kind(stock, 14).unknowns, 14)
            for stock in [plain.TYPICAL[word] for word in FIRM] + [(EVERY,), (X,) * 6]:
                self.assertEqual(kind(stock, 40).unknowns, 40)
            self.assertEqual(kind(unknowns=2, stock=K), Desk(K, 2))

    def test_at_first(self):
        for kind in (Desk, OpenDesk):
            for stock, many in ((K, 1), (NO_WAY, 14), (LOW_ONLY, 3), ((X,), 40)):
                desk = kind(stock, many)
                told = (
                    desk.stock, desk.unknowns, desk.facts, desk.case, desk.version, desk.news, desk.is_open(), desk.first(),
                    desk.forced(), len(desk), list(desk), desk.names,
                )
                right = (
                    stock, many, (), (stock, many, ()), 0, "same", True, (0,) * many, (), 0, [],
                    tuple("x" + str(k) for k in range(many)),
                )
                self.assertTrue(plain.same(told, right))
        words = {
            (T,): "search", K: "either", LOW_ONLY: "low", HIGH_ONLY: "high", (X,): "most", (EXAMPLES["I"],): "low",
            (plain.rows_of_sum(3, 1), X): "odd", plain.TYPICAL["both"]: "both",
        }
        for stock, word in words.items():
            self.assertEqual(str(Desk(stock, 4)), f"4 unknowns, 0 facts, by {word}, version 0")
            self.assertEqual(str(OpenDesk(stock, 4)), f"4 unknowns, 0 facts, by {word}, version 0")

    def test_properties_are_only_read(self):
        desk = Desk(K, 3)
        desk.add(0, (1, 2))
        for word in ("stock", "unknowns", "facts", "case", "names", "version", "news"):
            before = getattr(desk, word)
            with self.assertRaises(AttributeError):
                setattr(desk, word, before)
            self.assertEqual(getattr(desk, word), before)

    def test_items(self):
        desk = Desk(K, 3)
        for fact in ((0, (1, 2)), (1, (0,)), (0, (1, 2)), (0, (2, 2))):
            desk.add(*fact)
        self.assertEqual([desk[k] for k in range(4)], list(desk))
        for number in ODD_VALUES + (4, -1, -4, 10 ** 39):
            if type(number) is int and 0 <= number < 4:
                continue
            self.assertError("NoNumber", (number,), lambda: desk[number])
        self.assertTrue(all(fact in desk for fact in desk))
        for value in ODD_VALUES + (
            (0, (2, 1)), (0, (True, 2)), (False, (1, 2)), [0, (1, 2)], (0, [1, 2]), (1, (False,)), (0, (1, 2), 0),
            (0, 1, 2), (2, (0,)), (1, (3,)), (1, 0), ((0, (1, 2)),), "0",
        ):
            self.assertIs(value in desk, False, value)
        self.assertIs((0, (1, 2)) in desk, True)

    def made(self, kind, stock, unknowns, edits):
        desk = kind(stock, unknowns)
        for word, *items in edits:
            getattr(desk, word)(*items)
        return desk

    def test_equal(self):
        add, more, on = ("add", 0, (0, 1)), ("add", 1, (0,)), ("name", 1, "on")
        # In each of these lots all ways lead to the same facts and names.
        ways = [
            [(), (add, ("drop", 0)), (on, ("name", 1, "x1"))],
            [(add, more), (more, add, ("put", 0, 0, (0, 1)), ("put", 1, 1, (0,)))],
            [(more, add)], [(add,), (add, more, ("drop", 1))], [(add, on), (on, add), (("batch", (on, add)),)],
            [(on,), (add, on, ("drop", 0)), (on, add, ("undo",))],
        ]
        lots = [
            [self.made(kind, stock, many, edits) for kind in (Desk, OpenDesk) for edits in lot]
            for stock in (K, K + K) for many in (2, 3) for lot in ways
        ]
        for at, lot in enumerate(lots):
            for spot, other_lot in enumerate(lots):
                for one in lot:
                    for other in other_lot:
                        self.assertIs(one == other, at == spot)
                        self.assertIs(one != other, at != spot)
        desk = lots[0][0]
        for value in ODD_VALUES + (desk.case, desk.facts, desk.stock, Desk, object(), Busy(), 1.5, {1}):
            self.assertIs(desk == value, False)
            self.assertIs(desk != value, True)
            self.assertIs(value == desk, False)

    def test_by_name(self):
        desk = Desk(stock=K, unknowns=3)
        self.assertEqual(desk.add(places=(0, 1), index=0), 1)
        self.assertEqual(desk.put(places=(2,), index=1, number=0), 2)
        self.assertEqual(desk.name(text="on", unknown=1), 3)
        self.assertEqual(desk.batch(deeds=(("drop", 0),)), 4)
        self.assertEqual(desk.at(version=2)[0][2], ((1, (2,)),))
        self.assertEqual(desk.back(version=2), 2)
        self.assertEqual(desk.drop(number=0), 3)
        called = []
        self.assertEqual(desk.watch(function=called.append, word="fewer"), 0)
        self.assertEqual(desk.attempt(on_step=called.append, work=lambda one: one.add(1, (0,))), 4)
        self.assertEqual(called, [4, 4])
        self.assertIsNone(desk.unwatch(number=0))
        self.assertEqual(desk.beside(other=desk).unknowns, 6)


class Edits(Case):
    def test_by_chance(self):
        chance = plain.chance_of(211)
        seen = []
        for _ in range(60):
            stock, unknowns = some_stock(chance), chance.randint(1, 4)
            seen += self.walk(chance, Desk(stock, unknowns), Model(stock, unknowns), 45)
        for word in WORDS:
            self.assertGreater(seen.count(word), 20, word)
        for word in set(FIELDS) - {"TooManyEdits", "NoAnswers", "Busy", "TooHard", "BadStock"}:
            self.assertGreater(seen.count(word), 4, word)
        for word in ("add", "put", "drop", "name", "batch", "undo", "back", "at"):
            self.assertGreater(seen.count(word), 20, word)

    def test_wider_cases(self):
        chance = plain.chance_of(212)
        for stock in (NO_WAY + (X, EVERY), LOW_ONLY, HIGH_ONLY, K, plain.TYPICAL["odd"], plain.TYPICAL["most"]):
            self.walk(chance, Desk(stock, 8), Model(stock, 8), 40)

    def test_full_desk(self):
        # 80 facts, and at last 30 edits; several things wrong at once.
        desk = Desk(K, 3)
        for _ in range(4):
            desk.batch((("add", 0, (0, 1)),) * 20)
        self.assertEqual((len(desk), desk.version), (80, 4))
        every = (None, True, -1, 10 ** 39, "x")
        for index in every + (2,):
            self.assertError("NoRelation", (index,), lambda: desk.add(index, None))
            self.assertError("NoRelation", (index,), lambda: desk.put(79, index, None))
            for number in every + (80,):
                self.assertError("NoNumber", (number,), lambda: desk.put(number, index, None))
        for places in (None, (0,), (0, 1, 2), [0, 1], "ab", (7,), {0: 1, 1: 2}):
            self.assertError("Unfit", (), lambda: desk.add(0, places))
            self.assertError("Unfit", (), lambda: desk.put(0, 0, places))
        for given in (3, -1, True, None, "x0", (0,), 10 ** 39):
            self.assertError("NoUnknown", (given,), lambda: desk.add(0, (given, 9)))
            self.assertError("NoUnknown", (given,), lambda: desk.put(0, 0, (1, given)))
            self.assertError("NoUnknown", (given,), lambda: desk.name(given, "X"))
        self.assertError("Unfit", (), lambda: desk.add(0, (0, 1)))
        self.assertError("Rejected", (0,), lambda: desk.batch((("add", 0, (0, 1)), ("drop", 0))))
        self.assertError("Rejected", (2,), lambda: desk.batch((("drop", 0), ("add", 0, (0, 1)), ("add", 1, (0,)))))
        self.assertEqual(desk.batch((("drop", 5), ("add", 1, (2,)))), 5)
        self.assertEqual(desk.put(79, 1, (2,)), 6)
        while desk.version < 30:
            desk.name(0, "x0")
        for method, items in (
            (desk.put, (0, 0, (0, 1))), (desk.drop, (0,)), (desk.name, (0, "x0")), (desk.batch, ((("drop", 0),),)),
        ):
            self.assertError("TooManyEdits", (), lambda: method(*items))
        # What is wrong with the arguments comes ahead of it.
        self.assertError("Unfit", (), lambda: desk.add(0, (0, 1)))
        self.assertError("NoNumber", (80,), lambda: desk.drop(80))
        self.assertError("BadText", ("",), lambda: desk.name(0, ""))
        self.assertError("NotOne", ("x1",), lambda: desk.name(0, "x1"))
        self.assertError("BadBatch", (), lambda: desk.batch(()))
        self.assertError("Rejected", (0,), lambda: desk.batch((("drop", 80),)))
        self.assertEqual((desk.version, len(desk)), (30, 80))
        self.assertEqual(desk.undo(), 29)
        self.assertEqual(desk.drop(0), 30)
        self.assertError("TooManyEdits", (), lambda: desk.add(0, (0, 1)))

    def test_names(self):
        desk = Desk(K, 12)
        for text in ("a", "z", "abcdefgh", "a1234567", "x1b", "x12", "x3"):
            desk.name(3, text)
            self.assertEqual(desk.names[3], text)
        wrong = [value for value in ODD_VALUES if value != "relation"]
        wrong += ["", "A", "aB", "1", "1a", "abcdefghi", "a b", " a", "a ", "a\n", "a_", "a-b", "a.b", ("a",)]
        for text in wrong:
            self.assertError("BadText", (text,), lambda: desk.name(3, text))
            self.assertError("NoUnknown", (12,), lambda: desk.name(12, text))
        self.assertError("NotOne", ("x4",), lambda: desk.name(3, "x4"))
        version = desk.version
        self.assertEqual(desk.name(3, "x3"), version + 1)
        self.assertEqual(desk.name(4, "on"), version + 2)
        self.assertEqual(desk.name(3, "x4"), version + 3)
        self.assertEqual(desk.names[3:5], ("x4", "on"))
        self.assertEqual(desk.batch((("name", 3, "tmp"), ("name", 4, "x4"), ("name", 3, "on"))), version + 4)
        self.assertEqual(desk.names[3:5], ("on", "x4"))
        self.assertEqual(desk.back(0), 0)
        self.assertEqual(desk.names, tuple("x" + str(k) for k in range(12)))

    def test_batches(self):
        desk = Desk(K, 3)
        good = (("add", 0, (0, 1)), ("put", 0, 1, (2,)), ("name", 0, "on"), ("add", 1, (1,)), ("drop", 0))
        self.assertEqual(desk.batch(good), 1)
        self.assertEqual((desk.facts, desk.names, desk.news), (((1, (1,)),), ("on", "x1", "x2"), "fewer"))
        before = (desk.case, desk.names, desk.version, desk.news)
        deeds = (("add", 0, (0, 1)), ("drop", 1), ("drop", 0), ("drop", 0), ("name", 0, "x"))
        self.assertError("Rejected", (3,), lambda: desk.batch(deeds))
        for at, wrong in enumerate((("add", 0, (0, 3)), ("put", 9, 0, (0, 1)), ("drop", None), ("name", 0, "x1"))):
            deeds = (("add", 1, (0,)),) * at + (wrong, ("drop", 0))
            self.assertError("Rejected", (at,), lambda: desk.batch(deeds))
        fine = ("name", 0, "on")
        for deeds in ODD_VALUES + (
            (), [fine], (fine,) * 21, fine, (fine, ("undo",)), (fine, ("back", 0)), (fine, ("batch", (fine,))), (fine, None),
            (("add", 0),), (("add", 0, (0, 1), 0),), (("put", 0, 1),), (("drop",),), (("drop", 0, 0),), (("name", 0),),
            (list(fine),), (("Drop", 0),), ((),), ((b"drop", 0),), ((("drop",), 0),), ((["drop"], 0),), ({},), ("drop",),
        ):
            self.assertError("BadBatch", (), lambda: desk.batch(deeds))
        # A value that is no deed comes ahead of one that can't be done.
        self.assertError("BadBatch", (), lambda: desk.batch((("drop", 9), ("drop",))))
        self.assertTrue(plain.same((desk.case, desk.names, desk.version, desk.news), before))
        self.assertEqual(desk.batch((fine,) * 20), 2)
        self.assertEqual(desk.undo(), 1)
        self.assertEqual((desk.case, desk.names), before[:2])

    def test_undone_edits_leave_nothing(self):
        chance = plain.chance_of(213)
        for _ in range(25):
            stock, unknowns = some_stock(chance), chance.randint(1, 4)
            desk, model = Desk(stock, unknowns), Model(stock, unknowns)
            self.walk(chance, desk, model, 8)
            version, before = desk.version, [desk.at(k) for k in range(desk.version + 1)]
            shown = (desk.case, desk.names, desk.version, str(desk), desk.is_open(), desk.first(), desk.forced())
            for _ in range(chance.randint(1, 6)):
                try:
                    word, items = some_edit(chance, model)
                    getattr(desk, word)(*items)
                except KeeperError:
                    pass
            if chance.random() < 0.5:
                desk.back(version)
            while desk.version > version:
                desk.undo()
            after = (desk.case, desk.names, desk.version, str(desk), desk.is_open(), desk.first(), desk.forced())
            self.assertTrue(plain.same(after, shown))
            self.assertEqual([desk.at(k) for k in range(version + 1)], before)

    def test_undo_back_and_at(self):
        desk = Desk(K, 2)
        self.assertError("NothingToUndo", (), desk.undo)
        self.assertEqual((desk.back(0), desk.news), (0, "same"))
        desk.add(1, (0,))
        desk.add(0, (0, 0))
        self.assertEqual(desk.news, "none")
        self.assertEqual((desk.back(2), desk.news, desk.version), (2, "same", 2))
        for version in ODD_VALUES + (3, -1, 10 ** 39):
            if type(version) is int and 0 <= version <= 2:
                continue
            self.assertError("NoVersion", (version,), lambda: desk.back(version))
            self.assertError("NoVersion", (version,), lambda: desk.at(version))
        self.assertEqual([len(desk.at(k)[0][2]) for k in range(3)], [0, 1, 2])
        self.assertEqual(desk.at(2), (desk.case, desk.names))
        self.assertEqual((desk.back(0), desk.news, desk.version, len(desk)), (0, "answers", 0, 0))
        self.assertError("NoVersion", (1,), lambda: desk.at(1))

    def great_models(self, chance, stock, sizes):
        """Small models that have no unknown in common, with the unknowns of a great desk for each of theirs."""
        unknowns = list(range(sum(sizes)))
        chance.shuffle(unknowns)
        found = []
        for size in sizes:
            found.append((Model(stock, size), sorted(unknowns[:size])))
            del unknowns[:size]
        return found

    def test_great_news(self):
        chance = plain.chance_of(214)
        began = time.monotonic()
        words = []
        for word in FIRM:
            for round_ in range(5):
                stock = chance.choice((plain.kept_stock, plain.sparse_stock))(chance, (word,), (1, 2, 2, 3, 3, 4))
                models = self.great_models(chance, stock, (5,) * 8)
                desk = Desk(stock, 40)
                spots = []
                for _ in range(30):
                    ahead = [model.answers() for model, _ in models]
                    deeds = []
                    for _ in range(chance.choice((1, 1, 2, 20))):
                        at = chance.randrange(8)
                        model, lot = models[at]
                        index = chance.randrange(len(stock))
                        places = tuple(chance.randrange(5) for _ in range(stock[index][0]))
                        fact = (index, tuple(lot[k] for k in places))
                        if spots and chance.random() < 0.5:
                            number = chance.randrange(len(spots))
                            old, own = spots[number]
                            models[old][0].facts = self.without(models[old][0].facts, own)
                            if chance.random() < 0.6:
                                deeds.append(("drop", number))
                                del spots[number]
                                continue
                            deeds.append(("put", number) + fact)
                            spots[number] = (at, (index, places))
                        elif len(spots) < 80:
                            deeds.append(("add",) + fact)
                            spots.append((at, (index, places)))
                        else:
                            continue
                        model.facts += ((index, places),)
                    if not deeds:
                        continue
                    desk.batch(tuple(deeds))
                    words.append(self.check_great(desk, models, ahead))
                self.assertEqual(len(desk), len(spots))
                ahead = [model.answers() for model, _ in models]
                for model, _ in models:
                    model.facts = ()
                desk.back(0)
                words.append(self.check_great(desk, models, ahead))
        for word in WORDS:
            self.assertGreater(words.count(word), 3, word)
        self.assertLess(time.monotonic() - began, 60)

    def without(self, facts, fact):
        at = facts.index(fact)
        return facts[:at] + facts[at + 1:]

    def check_great(self, desk, models, ahead):
        now = [model.answers() for model, _ in models]
        had, has = all(ahead), all(now)
        if had and has:
            less = all(new <= old for old, new in zip(ahead, now))
            more = all(new >= old for old, new in zip(ahead, now))
            right = {(True, True): "same", (True, False): "fewer", (False, True): "more", (False, False): "other"}[less, more]
        else:
            right = news_between(set([0]) if had else set(), set([0]) if has else set())
        self.assertEqual(desk.news, right)
        self.assertIs(desk.is_open(), has)
        if not has:
            self.assertEqual((desk.first(), desk.forced()), (None, None))
            return right
        row, pairs = [None] * 40, []
        for (model, lot), rows in zip(models, now):
            for at, unknown in enumerate(lot):
                row[unknown] = min(rows)[at]
                items = {one[at] for one in rows}
                pairs += [(unknown, items.pop())] if len(items) == 1 else []
        # The blocks' unknowns ascend, but stand between one another: so the least row is made of the least ones.
        self.assertEqual(desk.first(), tuple(row))
        self.assertEqual(desk.forced(), tuple(sorted(pairs)))
        return right

    def test_great_in_good_time(self):
        chance = plain.chance_of(215)
        began = time.monotonic()
        for word in FIRM:
            stock = plain.TYPICAL[word]
            desk = Desk(stock, 40)
            for _ in range(26):
                desk.batch(tuple(("add",) + plain.some_fact(chance, stock, 40) for _ in range(3)))
            desk.batch(tuple(("put", chance.randrange(78)) + plain.some_fact(chance, stock, 40) for _ in range(20)))
            desk.back(3)
            desk.back(0)
        for unknowns, stock in ((14, NO_WAY + (X, EVERY)), (14, LOW_ONLY)):
            desk = Desk(stock, unknowns)
            for _ in range(26):
                desk.batch(tuple(("add",) + plain.some_fact(chance, stock, unknowns) for _ in range(3)))
            desk.back(0)
        self.assertLess(time.monotonic() - began, 40)


class Watchers(Case):
    def test_words_and_numbers(self):
        desk = Desk(K, 3)
        for word in ODD_VALUES + ("None", "same ", "any", ("same",), ["same"], "edit"):
            self.assertError("NotOne", (word,), lambda: desk.watch(word, print))
        self.assertEqual([desk.watch(word, print) for word in WORDS], [0, 1, 2, 3, 4, 5])
        for number in ODD_VALUES + (6, -1, 10 ** 39):
            if type(number) is int and 0 <= number < 6:
                continue
            self.assertError("NoNumber", (number,), lambda: desk.unwatch(number))
        self.assertIsNone(desk.unwatch(2))
        self.assertError("NoNumber", (2,), lambda: desk.unwatch(2))
        self.assertIsNone(desk.unwatch(0))
        self.assertIsNone(desk.unwatch(5))
        self.assertEqual(desk.watch("same", print), 6)
        self.assertError("NoNumber", (5,), lambda: desk.unwatch(5))

    def test_called_by_their_words(self):
        chance = plain.chance_of(221)
        seen = []
        for _ in range(12):
            stock, unknowns = some_stock(chance), chance.randint(1, 3)
            desk, model = Desk(stock, unknowns), Model(stock, unknowns)
            called = []

            def watcher(word, number):
                return lambda version: called.append((word, number, version, desk.version, desk.news, desk.facts))
            words = [chance.choice(WORDS) for _ in range(9)]
            for number, word in enumerate(words):
                desk.watch(word, watcher(word, number))
            for _ in range(30):
                ahead = desk.version
                called.clear()
                word, items = some_edit(chance, model) if chance.random() < 0.7 else ("undo", ())
                done = self.both(desk, model, word, items)
                right = [
                    (word, number, desk.version, desk.version, desk.news, desk.facts)
                    for number, word in enumerate(words) if word == model.news
                ]
                if done == "back" or done == word:
                    self.assertEqual(called, right)
                    seen.append(model.news)
                else:
                    self.assertEqual((called, desk.version), ([], ahead))
                    self.assertEqual(desk.at(desk.version)[0], desk.case)
        self.assertEqual(set(seen), set(WORDS))

    def test_put_up_and_taken_off_meanwhile(self):
        desk = Desk(K, 3)
        called = []

        def first(version):
            called.append("first")
            if len(called) == 1:
                desk.unwatch(1)
                desk.watch("same", lambda version: called.append("new"))
        desk.watch("same", first)
        desk.watch("same", lambda version: called.append("second"))
        desk.watch("same", lambda version: called.append("third"))
        desk.name(0, "on")
        self.assertEqual(called, ["first", "second", "third"])
        desk.name(0, "off")
        self.assertEqual(called[3:], ["first", "third", "new"])
        self.assertEqual(desk.watch("same", print), 4)

    def test_one_that_raises(self):
        for error in (ZeroDivisionError, Unfit):
            desk = Desk(K, 3)
            called = []

            def raising(version):
                called.append(version)
                raise error()
            desk.watch("fewer", called.append)
            desk.watch("fewer", raising)
            desk.watch("fewer", called.append)
            self.assertRaises(error, lambda: desk.add(0, (0, 1)))
            self.assertEqual((called, desk.version, desk.facts, desk.news), ([1, 1], 1, ((0, (0, 1)),), "fewer"))
            self.assertEqual(desk.drop(0), 2)
            self.assertRaises(error, lambda: desk.back(1))
            self.assertEqual((called, desk.version, desk.facts), ([1, 1, 1, 1], 1, ((0, (0, 1)),)))
            self.assertEqual(desk.undo(), 0)

    def busy_calls(self, desk):
        """All that raises Busy ahead of all else, with arguments that are right, and wrong."""
        return [
            lambda: desk.add(0, (0, 1)), lambda: desk.add(None, None), lambda: desk.put(0, 0, (0, 1)),
            lambda: desk.put(99, 0, 0), lambda: desk.drop(0), lambda: desk.drop(None), lambda: desk.name(0, "a"),
            lambda: desk.name(None, None), lambda: desk.batch((("drop", 0),)), lambda: desk.batch(None), desk.undo,
            lambda: desk.back(0), lambda: desk.back(None), lambda: desk.attempt(lambda one: None, None),
        ]

    def test_busy(self):
        for kind in (Desk, OpenDesk):
            desk = kind(K, 3)
            told = []

            def watcher(version):
                before = (desk.case, desk.names, desk.version, desk.news)
                for function in self.busy_calls(desk):
                    self.assertError("Busy", (), function)
                self.assertEqual((desk.case, desk.names, desk.version, desk.news), before)
                self.assertError("NoVersion", (9,), lambda: desk.at(9))
                self.assertEqual(desk.at(version), (desk.case, desk.names))
                for other in (desk.copy(), desk.beside(desk), kind(K, 3)):
                    ahead = other.version
                    self.assertEqual(other.add(0, (0, 2)), ahead + 1)
                    self.assertEqual(other.attempt(lambda one: one.undo(), told.append), ahead)
                told.append("watched")
            desk.watch("fewer", watcher)
            desk.add(0, (0, 1))
            self.assertEqual(told.count("watched"), 1)
            self.assertEqual(desk.attempt(lambda one: one.add(0, (1, 2)), watcher), 2)
            self.assertEqual(told.count("watched"), 3)
            desk.unwatch(0)
            self.assertEqual(desk.attempt(lambda one: (one.undo(), one.back(0), one.version), watcher), (1, 0, 0))
            self.assertEqual(told.count("watched"), 5)
            self.assertEqual(desk.add(0, (0, 1)), 1)

    def test_busy_behind_one_that_raises(self):
        desk = Desk(K, 3)

        def watcher(version):
            self.assertError("Busy", (), lambda: desk.undo())
            desk.undo()
        number = desk.watch("fewer", watcher)
        self.assertRaises(Busy, lambda: desk.add(0, (0, 1)))
        self.assertEqual((desk.version, len(desk)), (1, 1))
        desk.unwatch(number)
        self.assertEqual(desk.undo(), 0)


class Attempts(Case):
    def state(self, desk):
        return (desk.case, desk.names, desk.version, desk.news, [desk.at(k) for k in range(desk.version + 1)])

    def test_that_end_well(self):
        desk = Desk(K, 3)
        told = []

        def work(one):
            self.assertTrue(one is desk)
            one.add(0, (0, 1))
            one.name(0, "on")
            one.undo()
            return ["done"]
        desk.watch("fewer", lambda version: told.append(("watcher", version)))
        self.assertEqual(desk.attempt(work, lambda version: told.append(("step", version, desk.version, desk.news))), ["done"])
        self.assertEqual(told, [("watcher", 1), ("step", 1, 1, "fewer"), ("step", 2, 2, "same"), ("step", 1, 1, "same")])
        self.assertEqual((desk.version, desk.facts), (1, ((0, (0, 1)),)))
        desk.add(0, (0, 2))
        self.assertEqual(len(told), 5)
        self.assertEqual(desk.attempt(lambda one: one.back(0), None), 0)
        self.assertEqual(len(told), 5)

    def test_that_fail(self):
        for error in (Unfit, NoNumber, KeeperError):
            desk = Desk(K, 3)
            desk.add(0, (0, 1))
            desk.name(1, "on")
            called = []
            desk.watch("none", called.append)
            desk.watch("answers", called.append)
            before = self.state(desk)

            def work(one):
                one.back(0)
                one.batch((("add", 1, (0,)), ("add", 1, (1,)), ("add", 0, (0, 1))))
                one.watch("fewer", called.append)
                one.unwatch(1)
                raise error(7) if error is NoNumber else error()
            self.assertRaises(error, lambda: desk.attempt(work, None))
            self.assertEqual(self.state(desk), before)
            self.assertEqual(called, [1])
            # Watchers stay as they are then: that of "answers" is off, that of "fewer" is up.
            desk.batch((("add", 1, (0,)), ("add", 1, (1,))))
            desk.undo()
            self.assertEqual(called, [1, 3])
            desk.add(0, (1, 2))
            self.assertEqual(called, [1, 3, 3])
            self.assertEqual(desk.watch("same", print), 3)

    def test_errors_of_edits(self):
        desk = Desk(K, 3)

        def work(one):
            one.add(0, (0, 1))
            one.drop(5)
        before = self.state(desk)
        self.assertError("NoNumber", (5,), lambda: desk.attempt(work, None))
        self.assertEqual(self.state(desk), before)

        def caught(one):
            try:
                work(one)
            except NoNumber:
                return one.version
        self.assertEqual(desk.attempt(caught, None), 1)

    def test_other_errors(self):
        desk = Desk(K, 3)

        def work(one):
            one.add(0, (0, 1))
            raise ZeroDivisionError()
        self.assertRaises(ZeroDivisionError, lambda: desk.attempt(work, None))
        self.assertEqual((desk.version, desk.facts, desk.news), (1, ((0, (0, 1)),), "fewer"))

        def value_error(one):
            one.add(0, (0, 2))
            raise ValueError("no KeeperError")
        called = []
        self.assertRaises(ValueError, lambda: desk.attempt(value_error, called.append))
        self.assertEqual((desk.version, called), (2, [2]))
        # on_step is no more.
        desk.undo()
        self.assertEqual(called, [2])

    def test_within_attempts(self):
        desk = Desk(K, 3)
        outer, inner = [], []

        def failing(one):
            one.add(0, (0, 2))
            raise NotOne("x")

        def work(one):
            one.add(0, (0, 1))
            one.attempt(lambda one: one.name(0, "on"), inner.append)
            one.attempt(lambda one: one.name(0, "off"), None)
            one.name(1, "on")
            state = self.state(one)
            try:
                one.attempt(failing, inner.append)
            except NotOne:
                pass
            self.assertEqual(self.state(one), state)
            return one.undo()
        self.assertEqual(desk.attempt(work, outer.append), 3)
        self.assertEqual((outer, inner), ([1, 4, 3], [2, 5]))
        state = self.state(desk)

        def both(one):
            one.undo()
            one.attempt(failing, None)
        self.assertError("NotOne", ("x",), lambda: desk.attempt(both, None))
        self.assertEqual(self.state(desk), state)

    def test_what_watchers_and_on_step_raise(self):
        for error, stays in ((Unfit, False), (ZeroDivisionError, True)):
            def raising(version):
                raise error()
            for by_step in (True, False):
                desk = Desk(K, 3)
                desk.add(0, (0, 1))
                called = []
                if by_step:
                    desk.watch("fewer", called.append)
                else:
                    desk.watch("fewer", raising)
                step = raising if by_step else called.append
                self.assertRaises(error, lambda: desk.attempt(lambda one: one.add(0, (0, 2)), step))
                self.assertEqual(called, [2] if by_step else [])
                self.assertEqual((desk.version, desk.news), (2, "fewer") if stays else (1, "fewer"))

                def caught(one):
                    try:
                        one.add(1, (1,))
                    except error:
                        return one.version
                ahead = desk.version
                self.assertEqual(desk.attempt(caught, step), ahead + 1)
                self.assertEqual(desk.version, ahead + 1)

    def test_busy_ahead_of_all(self):
        desk = Desk(K, 3)
        ran = []

        def watcher(version):
            desk.attempt(lambda one: ran.append(one), None)
        desk.watch("same", watcher)
        before = self.state(desk)
        # Busy is an error of this package: out of an attempt, what was done goes.
        self.assertRaises(Busy, lambda: desk.attempt(lambda one: one.name(0, "on"), None))
        self.assertEqual((self.state(desk), ran), (before, []))
        self.assertRaises(Busy, lambda: desk.name(0, "on"))
        self.assertEqual((desk.version, ran), (1, []))


class Others(Case):
    def test_copy(self):
        chance = plain.chance_of(231)
        for kind in (Desk, OpenDesk):
            for _ in range(12):
                stock, unknowns = some_stock(chance), chance.randint(1, 4)
                desk, model = kind(stock, unknowns), Model(stock, unknowns)
                model.open_only = kind is OpenDesk
                called = []
                for word in WORDS:
                    desk.watch(word, called.append)
                self.walk(chance, desk, model, 12)
                other, twin = desk.copy(), model.twin()
                self.assertIs(type(other), kind)
                self.assertTrue(other == desk)
                self.check(other, twin)
                many = len(called)
                self.walk(chance, other, twin, 12)
                self.assertEqual(len(called), many)
                self.assertError("NoNumber", (0,), lambda: other.unwatch(0))
                self.assertEqual(other.watch("same", print), 0)
                self.check(desk, model)
                self.walk(chance, desk, model, 8)
                self.check(other, twin)

    def test_beside(self):
        chance = plain.chance_of(232)
        for _ in range(40):
            stock = some_stock(chance)
            one, its = Desk(stock, 2), Model(stock, 2)
            two, other = Desk(stock, 3), Model(stock, 3)
            self.walk(chance, one, its, 8)
            self.walk(chance, two, other, 8)
            for desk, model in ((one.beside(two), its.beside(other)), (two.beside(one), other.beside(its)),
                    (one.beside(one), its.beside(its))):
                self.assertIs(type(desk), Desk)
                self.check(desk, model)
                self.assertEqual(desk.at(0), (desk.case, desk.names))
                self.assertError("NothingToUndo", (), desk.undo)
                self.assertEqual(desk.watch("same", print), 0)
                desk.unwatch(0)
                self.walk(chance, desk, model, 5)
            self.check(one, its)
            self.check(two, other)

    def test_errors_of_beside(self):
        desk = Desk(K, 21)
        for value in ODD_VALUES + (K, desk.case, desk.facts):
            self.assertError("NotOne", (value,), lambda: desk.beside(value))
        for value in (Desk(K[:1], 1), Desk(K[::-1], 3), OpenDesk(K + K, 2)):
            with self.assertRaises(NotOne) as caught:
                desk.beside(value)
            self.assertTrue(caught.exception.given is value)
        self.assertError("Unfit", (), lambda: desk.beside(desk))
        self.assertError("Unfit", (), lambda: Desk(K, 40).beside(Desk(K, 1)))
        self.assertEqual(desk.beside(Desk(K, 19)).unknowns, 40)
        full, half = Desk(K, 3), Desk(K, 3)
        for _ in range(3):
            full.batch((("add", 1, (0,)),) * 20)
        half.batch((("add", 1, (0,)),) * 20)
        self.assertEqual(len(full.beside(half)), 80)
        half.add(1, (1,))
        self.assertError("Unfit", (), lambda: full.beside(half))
        hard = Desk(NO_WAY, 8)
        self.assertError("TooHard", (15,), lambda: hard.beside(Desk(NO_WAY, 7)))
        self.assertEqual(hard.beside(Desk(NO_WAY, 6)).unknowns, 14)
        self.assertError("TooHard", (16,), lambda: Desk(LOW_ONLY, 8).beside(OpenDesk(LOW_ONLY, 8)))
        # Unfit comes ahead of TooHard, NotOne ahead of both.
        many = Desk(NO_WAY, 14)
        for _ in range(4):
            many.batch((("add", 0, (0, 1, 2)),) * 20)
        hard.add(0, (0, 1, 2))
        self.assertError("Unfit", (), lambda: many.beside(hard))
        self.assertRaises(NotOne, lambda: many.beside(Desk(LOW_ONLY, 8)))
        with self.assertRaises(NotOne) as caught:
            desk.beside(hard)
        self.assertTrue(caught.exception.given is hard)

    def test_copies_made_in_an_attempt(self):
        desk = Desk(K, 3)
        kept, steps = [], []

        def work(one):
            one.add(0, (0, 1))
            kept.extend([one.copy(), one.beside(one)])
            for other in kept:
                other.name(0, "on")
            raise Unfit()
        self.assertRaises(Unfit, lambda: desk.attempt(work, steps.append))
        self.assertEqual(steps, [1])
        self.assertEqual([len(desk), len(kept[0]), len(kept[1])], [0, 1, 2])
        self.assertEqual([desk.version, kept[0].version, kept[1].version], [0, 2, 1])

    def test_errors_have_names_of_their_own(self):
        for error, items in ((BadStock, ("error",)), (NoVersion, ("given",)), (TooManyEdits, ()), (TooHard, ("size",))):
            self.assertEqual(vars(error(*items)), dict(zip(FIELDS[error.__name__], items)))


if __name__ == "__main__":
    unittest.main()
