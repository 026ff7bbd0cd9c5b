import unittest

from fullhands import errors
from fullhands.errors import FullhandsError

WITH_FIELDS = {
    "BadTable": (("place", "index"), ("web", 3)),
    "BadText": (("line",), (4,)),
    "BadStanding": (("place", "index"), ("most", 2)),
    "CannotMove": (("index", "reason"), (5, "hands")),
    "NoSuch": (("what",), ("kind",)),
    "WrongGround": (("needed",), ("tree",)),
    "TooGreat": (("what",), ("kinds",)),
    "BadVector": (("index",), (0,)),
    "NotLocal": (("kind",), (1,)),
    "BadProgram": (("line", "word"), (2, 7)),
    "InUse": (("what",), ("most",)),
    "AttemptFailed": (("index",), (6,)),
}
WITHOUT_FIELDS = (
    "BadLot", "BadDealing", "NotCore", "BadLoads", "Impossible", "BadLine", "NothingToUndo", "NothingToRedo",
)


class Errors(unittest.TestCase):
    def test_base_class(self):
        self.assertEqual(FullhandsError.__bases__, (ValueError,))
        self.assertEqual(FullhandsError.__module__, "fullhands.errors")

    def test_all_twenty_are_there_and_no_other(self):
        classes = [name for name, value in vars(errors).items() if isinstance(value, type)]
        self.assertEqual(sorted(classes), sorted(["FullhandsError", *WITH_FIELDS, *WITHOUT_FIELDS]))
        self.assertEqual(len(classes), 21)

    def test_each_is_derived_directly_from_the_base_class(self):
        for name in [*WITH_FIELDS, *WITHOUT_FIELDS]:
            error = getattr(errors, name)
            self.assertEqual(error.__bases__, (FullhandsError,), name)
            self.assertEqual(error.__module__, "fullhands.errors", name)

    def test_fields_in_the_order_given(self):
        for name, (names, values) in WITH_FIELDS.items():
            error = getattr(errors, name)(*values)
            self.assertEqual(vars(error), dict(zip(names, values)), name)

    def test_a_field_is_missing(self):
        for name, (_, values) in WITH_FIELDS.items():
            with self.assertRaises(TypeError, msg=name):
                getattr(errors, name)(*values[1:])

    def test_without_fields(self):
        for name in WITHOUT_FIELDS:
            self.assertEqual(vars(getattr(errors, name)()), {}, name)

    def test_each_can_be_caught_as_the_base_and_as_a_value_error(self):
        for caught in (FullhandsError, ValueError):
            for name, (_, values) in WITH_FIELDS.items():
                with self.assertRaises(caught, msg=name):
                    raise getattr(errors, name)(*values)
            for name in WITHOUT_FIELDS:
                with self.assertRaises(caught, msg=name):
                    raise getattr(errors, name)()

    def test_shows_itself_as_it_was_built(self):
        self.assertEqual(repr(errors.BadText(3)), "BadText(3)")
        self.assertEqual(repr(errors.CannotMove(2, "hands")), "CannotMove(2, 'hands')")
