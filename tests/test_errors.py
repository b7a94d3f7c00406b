import unittest

from anyplaces import errors
from anyplaces.errors import CodeError, NothingToRedo, NothingToUndo

WITH_VALUE = [
    "InvalidNumber", "InvalidWidth", "InvalidWords", "InvalidPlaces", "InvalidItems", "InvalidKnown", "InvalidPrices",
    "InvalidGrid", "InvalidLine", "InvalidDeed", "Unfit", "TooMany",
]


class TestErrors(unittest.TestCase):
    def test_code_error(self):
        self.assertEqual(CodeError.__bases__, (ValueError,))
        self.assertFalse(hasattr(CodeError(), "value"))

    def test_with_value(self):
        for name in WITH_VALUE:
            kind = getattr(errors, name)
            self.assertEqual(kind.__bases__, (CodeError,), name)
            self.assertIsNone(kind().value)
            for value in [0, True, None, "text", (1, 2), [], {}, kind()]:
                self.assertIs(kind(value).value, value)
                self.assertIs(kind(value=value).value, value)
            held = [1, [2]]
            error = kind(held)
            self.assertIs(error.value, held)
            self.assertIsInstance(str(error), str)
            with self.assertRaises(CodeError):
                raise error

    def test_without_field(self):
        for kind in [NothingToUndo, NothingToRedo]:
            self.assertEqual(kind.__bases__, (CodeError,))
            self.assertFalse(hasattr(kind(), "value"))


if __name__ == "__main__":
    unittest.main()
