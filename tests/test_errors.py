"""Point [5]: the errors."""

import unittest

from keptlengths import errors

PLAIN = (
    "NoSize", "NoMachine", "NoText", "NoNumber", "Idle", "NotKept", "Kept", "NoBits", "NoTexts",
    "NoCode", "NoShape", "NoDeed", "Down", "NotDown", "NoArea", "NoStand", "NoThing", "NoItems",
    "OtherSize", "NoEnd", "NoLetters", "NoMachines", "NoLot",
)
FIELDS = {"BadText": "place", "TooMany": "most"}


class Errors(unittest.TestCase):
    def test_length_error_is_a_value_error(self):
        self.assertEqual(errors.LengthError.__bases__, (ValueError,))
        self.assertIsInstance(errors.LengthError(), ValueError)

    def test_all_others_are_direct_subclasses(self):
        for name in PLAIN + tuple(FIELDS):
            with self.subTest(name):
                self.assertEqual(getattr(errors, name).__bases__, (errors.LengthError,))
                self.assertEqual(getattr(errors, name).__name__, name)

    def test_there_are_no_others(self):
        found = [name for name, value in vars(errors).items() if isinstance(value, type)]
        self.assertEqual(sorted(found), sorted(PLAIN + tuple(FIELDS) + ("LengthError",)))

    def test_without_fields_they_take_no_arguments(self):
        for name in PLAIN:
            with self.subTest(name), self.assertRaises(errors.LengthError) as told:
                raise getattr(errors, name)()
            self.assertIs(told.exception.__class__, getattr(errors, name))

    def test_a_field_keeps_any_value(self):
        own = [1, {"a": (2,)}]
        for name, field in FIELDS.items():
            for value in (0, -1, 4000, True, None, "x", "", own, {}, (), ValueError("x")):
                with self.subTest(name, value=value):
                    error = getattr(errors, name)(value)
                    self.assertIs(getattr(error, field), value)
                    self.assertIsInstance(str(error), str)

    def test_a_field_changes_with_the_list_it_was_made_with(self):
        own = [1]
        error = errors.TooMany(own)
        own.append(2)
        self.assertEqual(error.most, [1, 2])

    def test_a_field_is_the_only_argument(self):
        for name in FIELDS:
            for arguments in ((), (1, 2)):
                with self.subTest(name, arguments=arguments), self.assertRaises(TypeError):
                    getattr(errors, name)(*arguments)


if __name__ == "__main__":
    unittest.main()
