"""Tests of paneplans.errors: promise 5."""

import copy
import unittest

from paneplans import errors

WITH_STRING = ["InvalidPlan", "InvalidSegment", "InvalidSizes", "InvalidWord", "InvalidPane", "InvalidIndex",
               "InvalidNumber", "NotAlone", "NotNeighbours", "TooSmall", "NothingToUndo"]
WITH_FIELDS = {"InvalidLayout": ["pane"], "InvalidCode": ["place"], "Meeting": ["x", "y"], "InvalidText": ["place"]}


class ErrorsTest(unittest.TestCase):
    def test_pane_error_is_a_value_error(self):
        self.assertEqual(errors.PaneError.__bases__, (ValueError,))
        self.assertEqual(errors.PaneError.__module__, "paneplans.errors")
        with self.assertRaises(ValueError):
            raise errors.PaneError("why")

    def test_subclasses_are_direct_ones_defined_here(self):
        for name in WITH_STRING + list(WITH_FIELDS):
            error = getattr(errors, name)
            self.assertEqual(error.__bases__, (errors.PaneError,), name)
            self.assertEqual((error.__module__, error.__name__), ("paneplans.errors", name))

    def test_no_subclass_is_missing_or_more(self):
        names = sorted(error.__name__ for error in errors.PaneError.__subclasses__())
        self.assertEqual(names, sorted(WITH_STRING + list(WITH_FIELDS)))

    def test_no_subclass_is_caught_as_another_one(self):
        made = [getattr(errors, name)("why") for name in WITH_STRING]
        made += [getattr(errors, name)(*range(len(fields))) for name, fields in WITH_FIELDS.items()]
        for error in made:
            kinds = [other for other in errors.PaneError.__subclasses__() if isinstance(error, other)]
            self.assertEqual(kinds, [error.__class__])

    def test_errors_made_with_one_string(self):
        for name in WITH_STRING:
            error = getattr(errors, name)("why it is so")
            self.assertEqual(str(error), "why it is so", name)
            with self.assertRaises(errors.PaneError):
                raise error

    def test_fields_keep_what_the_error_is_made_with(self):
        for value in (0, 59, None, 10 ** 30 - 1):
            self.assertEqual(errors.InvalidLayout(value).pane, value)
            self.assertEqual(errors.InvalidCode(value).place, value)
            self.assertEqual(errors.InvalidText(value).place, value)
        meeting = errors.Meeting(10 ** 30 - 1, 7)
        self.assertEqual((meeting.x, meeting.y), (10 ** 30 - 1, 7))

    def test_fields_by_name(self):
        self.assertEqual(errors.InvalidLayout(pane=3).pane, 3)
        self.assertEqual(errors.InvalidCode(place=4).place, 4)
        self.assertEqual(errors.InvalidText(place=5).place, 5)
        meeting = errors.Meeting(y=6, x=7)
        self.assertEqual((meeting.x, meeting.y), (7, 6))

    def test_errors_can_be_raised_and_copied(self):
        for name, fields in WITH_FIELDS.items():
            error = getattr(errors, name)(*range(len(fields)))
            with self.assertRaises(errors.PaneError) as caught:
                raise error
            for found in (caught.exception, copy.deepcopy(error)):
                self.assertEqual([getattr(found, field) for field in fields], list(range(len(fields))), name)


if __name__ == "__main__":
    unittest.main()
