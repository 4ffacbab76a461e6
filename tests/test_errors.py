import unittest

from knotsorts import errors

# name: (base, field)
ERRORS = {
    "InvalidRule": (ValueError, "item"),
    "UnknownItem": (LookupError, "item"),
    "HeldItem": (ValueError, "item"),
    "LackingItem": (LookupError, "item"),
    "InvalidRow": (ValueError, "place"),
    "InvalidSize": (ValueError, "size"),
    "InvalidPairs": (ValueError, "index"),
    "InvalidNumbers": (ValueError, "index"),
    "InvalidBallots": (ValueError, "index"),
    "InvalidItems": (ValueError, "index"),
    "InvalidTolerance": (ValueError, "tolerance"),
    "InvalidText": (ValueError, "line"),
    "UnknownSort": (LookupError, "name"),
    "TooMany": (ValueError, "count"),
}


class Errors(unittest.TestCase):
    def test_all_fourteen_are_there(self):
        classes = {name for name, value in vars(errors).items() if isinstance(value, type)}
        self.assertEqual(classes, set(ERRORS))

    def test_bases(self):
        for name, (base, _) in ERRORS.items():
            with self.subTest(name):
                kind = getattr(errors, name)
                self.assertTrue(issubclass(kind, base))
                self.assertEqual(issubclass(kind, ValueError), base is ValueError)
                self.assertEqual(issubclass(kind, LookupError), base is LookupError)
                self.assertFalse(issubclass(kind, (KeyError, IndexError)))

    def test_none_is_a_subclass_of_another_one(self):
        for one in ERRORS:
            for other in ERRORS:
                if one != other:
                    self.assertFalse(issubclass(getattr(errors, one), getattr(errors, other)), (one, other))

    def test_fields_hold_what_was_passed(self):
        for name, (_, field) in ERRORS.items():
            for value in (0, 7, -1, None, True, "ab", (1, 2), [3], 10 ** 5000):
                error = getattr(errors, name)(value)
                self.assertIs(getattr(error, field), value, name)

    def test_they_can_be_written_out(self):
        for name in ERRORS:
            # Python refuses to write out a number of so many digits.
            self.assertIsInstance(str(getattr(errors, name)(10 ** 5000)), str)


if __name__ == "__main__":
    unittest.main()
