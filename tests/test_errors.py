"""[Z1] and [Z2]: the errors and the bounds."""

import copy
import unittest

from plain import ODD_VALUES
from sixkeepers import bounds, errors

FIELDS = {
    "BadBatch": None, "BadRow": "given", "BadStock": "error", "BadText": "place", "Busy": None,
    "NoAnswers": "reason", "NoNumber": "number", "NoRelation": "given", "NotOne": "given",
    "NothingToUndo": None, "NoUnknown": "given", "NoVersion": "given", "Rejected": "index",
    "TooHard": "size", "TooManyEdits": None, "Unfit": None,
}

BOUNDS = {
    "MAX_ARITY": 5, "MAX_ROWS": 12, "MAX_STOCK": 6, "MAX_UNKNOWNS": 40, "MAX_FACTS": 80, "MAX_SMALL": 10,
    "MAX_HARD": 14, "MAX_OPERATIONS": 6, "MAX_SEEN": 4, "MAX_LOTS": 10, "MAX_CLAUSES": 60, "MAX_SUMS": 400,
    "MAX_LEARNT": 8, "MAX_WIDTH": 3, "MAX_NAME": 8, "MAX_HISTORY": 10, "HISTORY": 30, "BATCH": 20,
}


class Errors(unittest.TestCase):
    def test_classes(self):
        self.assertEqual(errors.KeeperError.__bases__, (ValueError,))
        for name in FIELDS:
            self.assertEqual(getattr(errors, name).__bases__, (errors.KeeperError,), name)

    def test_no_other_class_of_the_package(self):
        for name in FIELDS:
            for other in FIELDS:
                if other != name:
                    self.assertFalse(issubclass(getattr(errors, name), getattr(errors, other)))

    def test_without_fields(self):
        for name, field in FIELDS.items():
            if field is None:
                error = getattr(errors, name)()
                self.assertIsInstance(error, errors.KeeperError)
                self.assertIsInstance(error, ValueError)

    def test_fields(self):
        huge = 10 ** 6000
        for name, field in FIELDS.items():
            if field is None:
                continue
            kind = getattr(errors, name)
            for value in ODD_VALUES + (huge, [huge], ValueError("x"), errors.Unfit()):
                for error in (kind(value), kind(**{field: value})):
                    self.assertIs(getattr(error, field), value)
                    self.assertEqual(list(vars(error)), [field])
                    self.assertIsInstance(str(error), str)
                    self.assertIs(getattr(copy.copy(error), field), value)

    def test_arguments_that_are_not_told(self):
        for name, field in FIELDS.items():
            if field is not None:
                with self.assertRaises(TypeError):
                    getattr(errors, name)()
                with self.assertRaises(TypeError):
                    getattr(errors, name)(1, 2)

    def test_raised_and_caught(self):
        for name, field in FIELDS.items():
            kind = getattr(errors, name)
            for caught in (kind, errors.KeeperError, ValueError):
                with self.assertRaises(caught):
                    raise (kind() if field is None else kind(7))


class Bounds(unittest.TestCase):
    def test_values(self):
        for name, value in BOUNDS.items():
            self.assertIs(type(getattr(bounds, name)), int)
            self.assertEqual(getattr(bounds, name), value, name)


if __name__ == "__main__":
    unittest.main()
