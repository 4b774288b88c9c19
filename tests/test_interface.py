"""[A3] and the interface: names, arguments and files, as far as they have landed."""

import importlib
import inspect
import unittest

FUNCTIONS = {
    "forms": {
        "relation_error": "value", "stock_error": "value", "case_error": "value",
        "is_row": "value many", "is_answer": "case value",
    },
    "keepers": {
        "laid": "operation rows", "keeps": "operation relation", "broken": "operation relation",
        "keepers": "relation", "kept_by": "stock", "way": "stock", "all_keepers": "stock many",
    },
    "relations": {
        "hull": "relation operations", "common": "one other", "either_of": "one other",
        "beside": "one other", "seen": "relation places", "opposite": "relation",
    },
    "texts": {
        "relation_text": "relation", "case_text": "case", "parse_relation": "value", "parse_case": "value",
    },
    "terms": {
        "made": "operations operation", "made_holds": "operations operation value",
        "all_made": "operations many",
    },
    "sayings": {
        "gadget_error": "stock value", "gadget_relation": "stock gadget", "sayable": "stock relation",
        "broken_by": "stock relation", "all_sayable": "stock places", "around": "stock rows",
        "expanded": "case stock gadgets",
    },
}


class Interface(unittest.TestCase):
    def test_functions(self):
        for name, functions in FUNCTIONS.items():
            module = importlib.import_module("sixkeepers." + name)
            for word, arguments in functions.items():
                function = getattr(module, word)
                self.assertTrue(inspect.isfunction(function), word)
                self.assertEqual(function.__module__, "sixkeepers." + name)
                parameters = inspect.signature(function).parameters.values()
                self.assertEqual(" ".join(p.name for p in parameters), arguments, word)
                for parameter in parameters:
                    self.assertEqual(parameter.kind, parameter.POSITIONAL_OR_KEYWORD)
                    self.assertIs(parameter.default, parameter.empty)

    def test_by_name(self):
        from sixkeepers.forms import is_answer, is_row
        from sixkeepers.keepers import laid
        from sixkeepers.sayings import expanded
        from sixkeepers.terms import made_holds
        case = (((1, ((1,),)),), 1, ())
        self.assertTrue(is_row(many=1, value=(0,)))
        self.assertTrue(is_answer(value=(0,), case=case))
        self.assertEqual(laid(rows=((0, 1),), operation=(1, 0)), (1, 0))
        self.assertTrue(made_holds(value=("steps", ()), operation=(0, 1), operations=()))
        told = expanded(gadgets=((1, ((0, (0,)),), (0,)),), stock=case[0], case=case)
        self.assertEqual(told, ((case[0], 1, ()), (0,)))


if __name__ == "__main__":
    unittest.main()
