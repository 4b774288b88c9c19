"""A desk by the words of the document, in the plainest way; the tests hold the package's desks against it."""

import copy
import re
import unittest

import plain
from plain import EXAMPLES, FIRM, HIGH_ONLY, LOW_ONLY, NO_WAY
from sixkeepers import errors
from sixkeepers.errors import NoAnswers
from sixkeepers.keepers import way
from sixkeepers.solving import refute


X, O, T = EXAMPLES["X"], EXAMPLES["O"], EXAMPLES["T"]
K = ((2, ((0, 1), (1, 0), (1, 1))), (1, ((0,),)))
FIELDS = {
    "NoRelation": ("given",), "Unfit": (), "NoUnknown": ("given",), "NoNumber": ("number",), "BadText": ("place",),
    "NotOne": ("given",), "BadBatch": (), "Rejected": ("index",), "TooManyEdits": (), "NothingToUndo": (),
    "NoVersion": ("given",), "NoAnswers": ("reason",), "Busy": (), "TooHard": ("size",), "BadStock": ("error",),
}
WORDS = ("none", "answers", "same", "fewer", "more", "other")
SHAPES = {"add": 2, "put": 3, "drop": 1, "name": 2}


class Wrong(Exception):
    """An error that is told for a call, by the name of its class, with its fields in order."""

    def __init__(self, name, *fields):
        super().__init__(name)
        self.name = name
        self.fields = fields


def news_between(old, new):
    """Both are sets of answers."""
    if old == new:
        return "same"
    if not new:
        return "none"
    if not old:
        return "answers"
    if new < old:
        return "fewer"
    return "more" if old < new else "other"


class Model:
    """A case that is edited; what a watcher does is left out."""

    def __init__(self, stock, unknowns, facts=()):
        self.stock, self.unknowns = stock, unknowns
        self.facts = facts
        self.names = tuple("x" + str(k) for k in range(unknowns))
        self.past = []
        self.news = "same"
        self.open_only = False

    @property
    def case(self):
        return (self.stock, self.unknowns, self.facts)

    def twin(self):
        other = Model(self.stock, self.unknowns, self.facts)
        other.names, other.past, other.news, other.open_only = self.names, list(self.past), self.news, self.open_only
        return other

    def answers(self, facts=None):
        return set(plain.answers((self.stock, self.unknowns, self.facts if facts is None else facts)))

    def check_fact(self, index, places):
        if not plain.is_int(index, 0, len(self.stock) - 1):
            raise Wrong("NoRelation", index)
        if not plain.is_tuple(places, self.stock[index][0]):
            raise Wrong("Unfit")
        for unknown in places:
            if not plain.is_int(unknown, 0, self.unknowns - 1):
                raise Wrong("NoUnknown", unknown)

    def check_number(self, number):
        if not plain.is_int(number, 0, len(self.facts) - 1):
            raise Wrong("NoNumber", number)

    def change(self, word, *items):
        """Does a deed, as far as it is let; raises what is wrong with it."""
        facts = list(self.facts)
        if word == "add":
            self.check_fact(*items)
            if len(facts) >= 80:
                raise Wrong("Unfit")
            facts.append(items)
        elif word == "put":
            self.check_number(items[0])
            self.check_fact(*items[1:])
            facts[items[0]] = items[1:]
        elif word == "drop":
            self.check_number(items[0])
            del facts[items[0]]
        else:
            unknown, text = items
            if not plain.is_int(unknown, 0, self.unknowns - 1):
                raise Wrong("NoUnknown", unknown)
            if type(text) is not str or not re.fullmatch("[a-z][a-z0-9]{0,7}", text):
                raise Wrong("BadText", text)
            if text in self.names and self.names.index(text) != unknown:
                raise Wrong("NotOne", text)
            self.names = self.names[:unknown] + (text,) + self.names[unknown + 1:]
        self.facts = tuple(facts)

    def change_all(self, deeds):
        fine = type(deeds) is tuple and 1 <= len(deeds) <= 20
        for deed in deeds if fine else ():
            if type(deed) is not tuple or not deed or type(deed[0]) is not str or SHAPES.get(deed[0]) != len(deed) - 1:
                fine = False
        if not fine:
            raise Wrong("BadBatch")
        for at, deed in enumerate(deeds):
            try:
                self.change(*deed)
            except Wrong:
                raise Wrong("Rejected", at)

    def edit(self, word, *items):
        """Does an edit; returns the new version. Raises what is wrong, and does nothing then."""
        facts, names = self.facts, self.names
        try:
            if word == "batch":
                self.change_all(*items)
            else:
                self.change(word, *items)
            if len(self.past) >= 30:
                raise Wrong("TooManyEdits")
            if self.open_only and not self.answers():
                raise Wrong("NoAnswers", self.case)
        except Wrong:
            self.facts, self.names = facts, names
            raise
        self.news = news_between(self.answers(facts), self.answers())
        self.past.append((facts, names))
        return len(self.past)

    def undo(self):
        if not self.past:
            raise Wrong("NothingToUndo")
        return self.back(len(self.past) - 1)

    def back(self, version):
        facts, names = self.at(version)
        self.news = news_between(self.answers(), self.answers(facts))
        self.facts, self.names = facts, names
        del self.past[version:]
        return version

    def at(self, version):
        if not plain.is_int(version, 0, len(self.past)):
            raise Wrong("NoVersion", version)
        return (self.past + [(self.facts, self.names)])[version]

    def forced(self):
        rows = self.answers()
        if not rows:
            return None
        columns = [set(column) for column in zip(*rows)]
        return tuple((k, min(items)) for k, items in enumerate(columns) if len(items) == 1)

    def beside(self, other):
        facts = tuple((index, tuple(k + self.unknowns for k in places)) for index, places in other.facts)
        return Model(self.stock, self.unknowns + other.unknowns, self.facts + facts)


def some_places(chance, unknowns, arity):
    if chance.random() < 0.08:
        return chance.choice((None, [0] * arity, (0,) * (arity + 1), (), "ab", 0, (unknowns,) * arity, {}))
    places = [chance.randrange(unknowns) for _ in range(arity)]
    if chance.random() < 0.06:
        places[chance.randrange(arity)] = chance.choice((unknowns, -1, True, None, "x0", (0,), 10 ** 39))
    return tuple(places)


def some_number(chance, many):
    if many == 0 or chance.random() < 0.12:
        return chance.choice((many, -1, True, None, "0", (0,), 10 ** 39, False))
    return chance.randrange(many)


def some_text(chance, names):
    return chance.choice(
        names + ("on", "off", "a", "z9", "abcdefgh", "x" + str(chance.randrange(9)))
        + ((chance.choice(("", "Ab", "abcdefghi", "1a", "a b", "a_", "a\n", None, 3, ("a",), True)),) * 2)
    )


def some_deed(chance, model):
    word = chance.choice(("add", "add", "add", "put", "drop", "name"))
    index = some_number(chance, len(model.stock))
    arity = model.stock[index][0] if plain.is_int(index, 0, len(model.stock) - 1) else 2
    places = some_places(chance, model.unknowns, arity)
    if word == "add":
        return ("add", index, places)
    if word == "put":
        return ("put", some_number(chance, len(model.facts)), index, places)
    if word == "drop":
        return ("drop", some_number(chance, len(model.facts)))
    return ("name", some_number(chance, model.unknowns), some_text(chance, model.names))


def some_batch(chance, model):
    if chance.random() < 0.15:
        good = ("name", 0, model.names[0])
        return chance.choice((
            (), [good], (good,) * 21, good, (good, ("undo",)), (good, None), (("add", 0),), (("drop",),), (["drop", 0],),
            (("Drop", 0),), ((),), (good, ("name", 0, "a", "b")), "drop", None, ((["add"], 0, (0,)),), ((good,),),
        ))
    if chance.random() < 0.1:
        return (("name", 0, model.names[0]),) * 20
    return tuple(some_deed(chance, model) for _ in range(chance.randint(1, 4)))


def some_edit(chance, model):
    """A pair of the name of a method and its arguments."""
    if chance.random() < 0.15:
        return ("batch", (some_batch(chance, model),))
    deed = some_deed(chance, model)
    return (deed[0], deed[1:])


def some_stock(chance):
    if chance.random() < 0.5:
        return plain.kept_stock(chance, (chance.choice(FIRM),), (1, 2, 2, 3, 3, 4))
    return chance.choice((K, (X, O), (T, X), LOW_ONLY, HIGH_ONLY, NO_WAY, plain.some_stock(chance)))


class Case(unittest.TestCase):
    """What tests of desks have in common."""

    def assertError(self, name, fields, function):
        with self.assertRaises(getattr(errors, name)) as caught:
            function()
        right = dict(zip(FIELDS[name], fields))
        self.assertTrue(plain.same(sorted(vars(caught.exception).items()), sorted(right.items())), (name, fields))

    def assertRefused(self, case, function):
        with self.assertRaises(NoAnswers) as caught:
            function()
        self.assertTrue(plain.same(vars(caught.exception), {"reason": refute(case)}))

    def both(self, desk, model, word, items):
        """Calls the method of both; they are to tell the same."""
        before = copy.deepcopy(items)
        if word in ("undo", "back", "at"):
            plainly = getattr(model, word)
        else:
            plainly = (lambda *some: model.edit(word, *some))
        try:
            right = plainly(*items)
        except Wrong as wrong:
            if wrong.name == "NoAnswers":
                self.assertRefused(wrong.fields[0], lambda: getattr(desk, word)(*items))
            else:
                self.assertError(wrong.name, wrong.fields, lambda: getattr(desk, word)(*items))
            return wrong.name
        told = getattr(desk, word)(*items)
        if word == "at":
            right = ((model.stock, model.unknowns, right[0]), right[1])
        self.assertTrue(plain.same(told, right), (word, items))
        self.assertTrue(plain.same(items, before))
        return word

    def check(self, desk, model, deep=True):
        told = (desk.stock, desk.unknowns, desk.facts, desk.case, desk.names, desk.version, len(desk), list(desk))
        right = (
            model.stock, model.unknowns, model.facts, model.case, model.names, len(model.past), len(model.facts),
            list(model.facts),
        )
        self.assertTrue(plain.same(told, right), (told, right))
        self.assertEqual(desk.news, model.news)
        word = way(model.stock) or "search"
        line = f"{model.unknowns} unknowns, {len(model.facts)} facts, by {word}, version {len(model.past)}"
        self.assertEqual(str(desk), line)
        if deep:
            rows = sorted(model.answers())
            self.assertIs(desk.is_open(), len(rows) > 0)
            self.assertTrue(plain.same(desk.first(), rows[0] if rows else None))
            self.assertTrue(plain.same(desk.forced(), model.forced()))

    def walk(self, chance, desk, model, edits):
        """Edits by chance; returns what was seen."""
        seen = []
        for _ in range(edits):
            way = chance.random()
            if way < 0.72:
                word, items = some_edit(chance, model)
            elif way < 0.84:
                word, items = "undo", ()
            else:
                word = chance.choice(("back", "at", "at"))
                items = (some_number(chance, len(model.past) + 1),)
            seen.append(self.both(desk, model, word, items))
            self.check(desk, model, chance.random() < 0.5)
            seen.append(desk.news)
        return seen
