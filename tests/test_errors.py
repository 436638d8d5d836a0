"""The errors of the interface."""

import inspect
import unittest

from dimkeepers import errors

TEXT_ERRORS = {
    "NoTelling": ValueError,
    "NoTeam": LookupError,
    "NoKeeper": LookupError,
    "NoThing": LookupError,
    "NoNumber": LookupError,
    "NoRoom": ValueError,
    "Twice": ValueError,
    "Nothing": RuntimeError,
}
FIELD_ERRORS = {"NoOrder": "lot", "TooMany": "many", "NoText": "row"}


def classes():
    return [getattr(errors, name) for name in [*TEXT_ERRORS, *FIELD_ERRORS]]


class Errors(unittest.TestCase):

    def test_just_these_eleven_are_there(self):
        found = [name for name, _ in inspect.getmembers(errors, inspect.isclass)]
        self.assertEqual(sorted([*TEXT_ERRORS, *FIELD_ERRORS]), sorted(found))
        self.assertEqual(11, len(found))

    def test_each_is_defined_in_its_file(self):
        for made in classes():
            with self.subTest(made.__name__):
                self.assertEqual("dimkeepers.errors", made.__module__)

    def test_each_has_the_base_that_is_told(self):
        bases = {**TEXT_ERRORS, **{name: ValueError for name in FIELD_ERRORS}}
        for name, base in bases.items():
            with self.subTest(name):
                self.assertEqual((base,), getattr(errors, name).__bases__)

    def test_none_stands_under_another_one(self):
        for one in classes():
            for other in classes():
                with self.subTest(f"{one.__name__} {other.__name__}"):
                    self.assertEqual(one is other, issubclass(one, other))

    def test_text_errors_are_made_with_one_text(self):
        for name, base in TEXT_ERRORS.items():
            with self.subTest(name):
                with self.assertRaises(base) as caught:
                    raise getattr(errors, name)("why it is so")
                self.assertEqual("why it is so", str(caught.exception))

    def test_fields_are_set_when_the_object_is_made(self):
        values = {"NoOrder": (["x", "y"], []), "TooMany": (64, 0), "NoText": (0, 7)}
        for name, field in FIELD_ERRORS.items():
            made = getattr(errors, name)
            for value in values[name]:
                with self.subTest(f"{name} {value}"):
                    self.assertEqual(value, getattr(made(value), field))
                    self.assertEqual(value, getattr(made(**{field: value}), field))
                    self.assertIsInstance(getattr(made(value), field), type(value))
                    with self.assertRaises(ValueError) as caught:
                        raise made(value)
                    self.assertEqual(value, getattr(caught.exception, field))

    def test_the_class_itself_has_no_field(self):
        for name, field in FIELD_ERRORS.items():
            with self.subTest(name):
                self.assertFalse(hasattr(getattr(errors, name), field))

    def test_each_object_has_its_own_field(self):
        first, second = errors.TooMany(3), errors.TooMany(4)
        self.assertEqual((3, 4), (first.many, second.many))

    def test_a_lot_is_kept_as_a_copy(self):
        lot = ["x", "y"]
        refusals = [errors.NoOrder(lot), errors.NoOrder(lot=lot)]
        lot.append("z")
        self.assertEqual([["x", "y"], ["x", "y"]], [refusal.lot for refusal in refusals])
        refusals[0].lot.clear()
        self.assertEqual(["x", "y"], refusals[1].lot)
        self.assertEqual(["x", "y", "z"], lot)

    def test_nothing_of_an_error_holds_the_list_that_was_handed_in(self):
        lot = ["x"]
        refusal = errors.NoOrder(lot)
        self.assertTrue(all(kept is not lot for kept in refusal.args))
        self.assertTrue(all(kept is not lot for kept in vars(refusal).values()))
