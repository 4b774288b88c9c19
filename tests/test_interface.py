"""[A3] and the interface: names, arguments and files, as far as they have landed."""

import importlib
import inspect
import unittest

import plain
from sixkeepers import errors

FUNCTIONS = {
    "forms": {
        "relation_error": "value", "stock_error": "value", "case_error": "value",
        "is_row": "value many", "is_answer": "case value",
    },
    "keepers": {
        "laid": "operation rows", "keeps": "operation relation", "broken": "operation relation",
        "keepers": "relation", "kept_by": "stock", "way": "stock", "all_keepers": "stock many",
    },
    "relations": {
        "hull": "relation operations", "common": "one other", "either_of": "one other",
        "beside": "one other", "seen": "relation places", "opposite": "relation",
    },
    "texts": {
        "relation_text": "relation", "case_text": "case", "parse_relation": "value", "parse_case": "value",
    },
    "terms": {
        "made": "operations operation", "made_holds": "operations operation value",
        "all_made": "operations many",
    },
    "sayings": {
        "gadget_error": "stock value", "gadget_relation": "stock gadget", "sayable": "stock relation",
        "broken_by": "stock relation", "all_sayable": "stock places", "around": "stock rows",
        "expanded": "case stock gadgets",
    },
    "clauses": {
        "clause_error": "many value", "holds_clause": "clause row", "is_within": "one other", "said": "arity clauses",
        "primes": "relation", "form": "relation word", "says": "relation value", "fewest": "relation",
        "case_clauses": "case word",
    },
    "making": {"reach": "many clauses clause", "reaches": "many clauses clause value"},
    "sums": {
        "sum_error": "many value", "holds_sum": "one row", "added_sum": "one other", "reduced": "sums",
        "sums_of": "relation", "said_sums": "arity sums", "sum_paper": "sums wanted",
        "sum_paper_holds": "sums wanted value", "free_places": "many sums", "sum_row": "many sums values",
        "sum_count": "many sums", "case_sums": "case",
    },
    "following": {
        "agreeing": "case fact known", "follow": "case known", "chain": "case known", "chain_holds": "case known value",
    },
    "solving": {
        "answer": "case", "refute": "case", "refutes": "case value", "answer_with": "case known",
        "least_answer": "case", "greatest_answer": "case",
    },
    "follows": {
        "forced": "case", "alike": "case", "seen_rows": "case places", "follows": "case relation places",
        "against": "case relation places", "needless": "case", "trimmed": "case", "pieces": "case",
        "between": "case lot", "core": "case", "core_holds": "case value", "drop_holds": "case value",
        "cores": "case", "drops": "case", "fewest_drop": "case", "reason": "case unknown",
        "reasons": "case unknown", "reason_holds": "case unknown value",
    },
    "counting": {
        "count": "case", "answer_at": "case number", "number_of": "case value", "answers": "case",
        "yes_counts": "case", "spread": "case", "nearest": "case wish", "farthest": "case wish",
        "cheapest": "case costs",
    },
    "turns": {
        "turns_error": "case value", "won": "case turns", "won_from": "case turns begin",
        "good": "case turns begin", "hinges": "case turns",
    },
    "turnpapers": {"lost_paper": "case turns"},
    "turnchecker": {"is_lost_paper": "case turns value"},
    "walks": {
        "hops": "case row", "is_walk": "case value", "walk": "case one other", "walk_to": "case row unknown",
    },
    "islands": {
        "together": "case one other", "low_end": "case row", "high_end": "case row", "island": "case row",
        "islands": "case", "island_count": "case", "loose": "case",
    },
    "partings": {"apart": "case one other", "is_apart": "case one other value"},
    "learning": {"against": "case learner", "beyond": "case learner", "learnt": "case shape width"},
}
# For each class its own arguments, its properties, its methods with their arguments, and its other methods.
CLASSES = {
    ("learning", "Learner"): (
        "many shape width", "many shape width guess told left",
        {"lets": "row", "tell": "row", "take_back": "", "copy": ""}, "__contains__ __len__ __eq__",
    ),
    ("desks", "Desk"): (
        "stock unknowns", "stock unknowns facts case names version news",
        {
            "is_open": "", "first": "", "forced": "", "add": "index places", "put": "number index places",
            "drop": "number", "name": "unknown text", "batch": "deeds", "undo": "", "back": "version", "at": "version",
            "watch": "word function", "unwatch": "number", "attempt": "work on_step", "copy": "", "beside": "other",
        },
        "__getitem__ __contains__ __len__ __iter__ __str__ __eq__",
    ),
    ("shells", "Shell"): ("desk", "desk history", {"say": "line"}, ""),
}
# Arguments for each function, by which it tells something of its own.
SAMPLES = {
    "value": (0, 1, 0), "many": 3, "case": (((2, ((0, 1), (1, 0))),), 3, ((0, (0, 1)), (0, (1, 2)))),
    "operation": (0, 0, 0, 1), "rows": ((0, 1, 0), (1, 1, 0)), "relation": (2, ((0, 1), (1, 0), (1, 1))),
    "stock": ((2, ((0, 0), (0, 1), (1, 1))),), "operations": ((0, 0, 0, 1), (1, 0)), "one": (0, 1, 0),
    "other": (1, 0, 1), "places": (0, 2), "gadget": (2, ((0, (0, 1)),), (0, 1)), "gadgets": ((2, ((0, (0, 1)),), (0, 1)),),
    "row": (0, 1, 0), "arity": 2, "clauses": (((0,), (1,)), ((1,), ())), "clause": ((0,), ()), "word": "most",
    "sums": (((0, 1), 1), ((1, 2), 1)), "wanted": ((0, 2), 0), "values": (1,), "fact": 1, "known": ((0, 1),),
    "lot": (0,), "unknown": 1, "number": 1, "wish": (1, 1, 1), "costs": (3, -2, 0), "turns": ("some", "all", "some"),
    "begin": (0,), "shape": "odd", "width": 2,
}
SPECIAL = {
    "common": {"one": (2, ((0, 1), (1, 0))), "other": (2, ((0, 1), (1, 1)))},
    "either_of": {"one": (2, ((0, 1), (1, 0))), "other": (2, ((0, 1), (1, 1)))},
    "beside": {"one": (1, ((1,),)), "other": (2, ((0, 1), (1, 1)))},
    "seen": {"places": (1, 0, 1)}, "parse_relation": {"value": "2: 01 10"},
    "parse_case": {"value": "unknowns 2\nrelation 1: 1\nfact 0 1"},
    "all_sayable": {"places": 2}, "is_within": {"one": ((0,), ()), "other": ((0,), (1,))},
    "holds_sum": {"one": ((0, 1), 1)}, "added_sum": {"one": ((0, 1), 1), "other": ((1, 2), 0)},
    "said_sums": {"sums": (((0, 1), 1),)}, "expanded": {"stock": ((2, ((0, 1), (1, 0))),)},
}


class Interface(unittest.TestCase):
    def test_functions(self):
        for name, functions in FUNCTIONS.items():
            module = importlib.import_module("sixkeepers." + name)
            for word, arguments in functions.items():
                function = getattr(module, word)
                self.assertTrue(inspect.isfunction(function), word)
                self.assertEqual(function.__module__, "sixkeepers." + name)
                parameters = inspect.signature(function).parameters.values()
                self.assertEqual(" ".join(p.name for p in parameters), arguments, word)
                for parameter in parameters:
                    self.assertEqual(parameter.kind, parameter.POSITIONAL_OR_KEYWORD)
                    self.assertIs(parameter.default, parameter.empty)

    def test_classes(self):
        for (name, word), (arguments, properties, methods, others) in CLASSES.items():
            module = importlib.import_module("sixkeepers." + name)
            kind = getattr(module, word)
            self.assertTrue(inspect.isclass(kind))
            self.assertEqual(kind.__module__, "sixkeepers." + name)
            self.assertEqual(list(inspect.signature(kind).parameters), arguments.split())
            for one in properties.split():
                self.assertIsInstance(vars(kind)[one], property)
                self.assertIsNone(vars(kind)[one].fset)
            for one, its in methods.items():
                parameters = list(inspect.signature(vars(kind)[one]).parameters.values())[1:]
                self.assertEqual(" ".join(p.name for p in parameters), its, one)
                for parameter in parameters:
                    self.assertEqual(parameter.kind, parameter.POSITIONAL_OR_KEYWORD)
                    self.assertIs(parameter.default, parameter.empty)
            for one in others.split():
                self.assertTrue(inspect.isfunction(vars(kind)[one]), one)
        desks = importlib.import_module("sixkeepers.desks")
        self.assertTrue(issubclass(desks.OpenDesk, desks.Desk))
        self.assertEqual(desks.OpenDesk.__module__, "sixkeepers.desks")

    def arguments(self, word, names):
        given = {name: SPECIAL.get(word, {}).get(name, SAMPLES.get(name)) for name in names}
        if "learner" in names:
            given["learner"] = importlib.import_module("sixkeepers.learning").Learner(3, "odd", 1)
        return given

    def told(self, module, word, given, by_name):
        """What the function tells, or the error that it raises."""
        function = getattr(importlib.import_module("sixkeepers." + module), word)
        try:
            told = function(**given) if by_name else function(*given.values())
            return list(told) if inspect.isgenerator(told) else told
        except errors.KeeperError as error:
            return (type(error), vars(error))

    def test_by_place_and_by_name(self):
        # Twice, in another order, so that what one call leaves behind would be seen by another one.
        every = [(module, word, names.split()) for module, lot in FUNCTIONS.items() for word, names in lot.items()]
        seen = {}
        for turn in (every, every[::-1], sorted(every, key=lambda one: one[1])):
            for module, word, names in turn:
                given = self.arguments(word, names)
                before = repr(given) if "learner" not in given else None
                first = self.told(module, word, given, False)
                backwards = {name: given[name] for name in reversed(names)}
                self.assertTrue(plain.same(self.told(module, word, backwards, True), first), word)
                self.assertTrue(plain.same(seen.setdefault((module, word), first), first), word)
                self.assertTrue(before is None or repr(given) == before, word)
        failed = {word for (_, word), told in seen.items() if isinstance(told, tuple) and told[:1] and isinstance(told[0], type)}
        self.assertEqual(failed, set())

    def test_errors_by_name(self):
        fields = {
            "BadBatch": "", "BadRow": "given", "BadStock": "error", "BadText": "place", "Busy": "", "NoAnswers": "reason",
            "NoNumber": "number", "NoRelation": "given", "NotOne": "given", "NothingToUndo": "", "NoUnknown": "given",
            "NoVersion": "given", "Rejected": "index", "TooHard": "size", "TooManyEdits": "", "Unfit": "",
        }
        for word, name in fields.items():
            kind = getattr(errors, word)
            self.assertEqual(kind.__bases__, (errors.KeeperError,))
            given = {name: (1, [None])} if name else {}
            self.assertEqual(vars(kind(**given)), given)

    def test_by_name(self):
        from sixkeepers.forms import is_answer, is_row
        from sixkeepers.keepers import laid
        from sixkeepers.sayings import expanded
        from sixkeepers.terms import made_holds
        case = (((1, ((1,),)),), 1, ())
        self.assertTrue(is_row(many=1, value=(0,)))
        self.assertTrue(is_answer(value=(0,), case=case))
        self.assertEqual(laid(rows=((0, 1),), operation=(1, 0)), (1, 0))
        self.assertTrue(made_holds(value=("steps", ()), operation=(0, 1), operations=()))
        told = expanded(gadgets=((1, ((0, (0,)),), (0,)),), stock=case[0], case=case)
        self.assertEqual(told, ((case[0], 1, ()), (0,)))

    def test_by_name_further_on(self):
        from sixkeepers.counting import cheapest
        from sixkeepers.follows import follows
        from sixkeepers.making import reaches
        from sixkeepers.solving import answer_with
        from sixkeepers.sums import sum_row
        from sixkeepers.turns import good
        relation = (1, ((1,),))
        case = ((relation,), 1, ())
        self.assertEqual(cheapest(costs=(-3,), case=case), (-3, (1,)))
        self.assertIs(follows(places=(0,), relation=relation, case=case), False)
        self.assertIs(reaches(value=("row", (0,)), clause=((0,), ()), clauses=(), many=1), True)
        self.assertEqual(answer_with(known=((0, 1),), case=case), (1,))
        self.assertEqual(sum_row(values=(1,), sums=(), many=1), (1,))
        self.assertEqual(good(begin=(), turns=("all",), case=((relation,), 1, ((0, (0,)),))), (0,))

    def test_papers_and_walks_by_name(self):
        from sixkeepers.islands import island, together
        from sixkeepers.turnchecker import is_lost_paper
        from sixkeepers.turnpapers import lost_paper
        from sixkeepers.walks import hops, is_walk, walk, walk_to
        case = (((1, ((1,),)),), 2, ((0, (0,)),))
        paper = lost_paper(turns=("all", "all"), case=case)
        self.assertIs(is_lost_paper(value=paper, turns=("all", "all"), case=case), True)
        self.assertEqual(hops(row=(1, 0), case=case), (1,))
        self.assertEqual(walk(other=(1, 1), one=(1, 0), case=case), ((1, 0), (1, 1)))
        self.assertEqual(walk_to(unknown=1, row=(1, 1), case=case), ((1, 1), (1, 0)))
        self.assertIs(is_walk(value=((1, 0),), case=case), True)
        self.assertIs(together(other=(1, 1), one=(1, 0), case=case), True)
        self.assertEqual(island(row=(1, 1), case=case), ((1, 0), (1, 1)))


if __name__ == "__main__":
    unittest.main()
