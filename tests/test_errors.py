"""Point 20, and what point 4 says of the errors."""

import unittest

from vouchchains import errors
from vouchchains.errors import VouchError
from kinds import EVERY_KIND

FIELDS = {
    "Wrong": "place", "TooMany": "limit", "Unfit": None, "NoDeed": None, "Unknown": "thing",
    "Taken": "thing", "Nothing": None, "Broken": "at", "NoText": None, "NoCommand": None,
}


def made(name, *things):
    return getattr(errors, name)(*things)


def example(name):
    return made(name) if FIELDS[name] is None else made(name, 3)


class Families(unittest.TestCase):

    def test_vouch_error_stands_directly_under_value_error(self):
        self.assertEqual(VouchError.__bases__, (ValueError,))

    def test_each_error_stands_directly_under_vouch_error(self):
        for name in FIELDS:
            self.assertEqual(getattr(errors, name).__bases__, (VouchError,), name)

    def test_they_are_ten_different_classes(self):
        classes = [getattr(errors, name) for name in FIELDS]
        self.assertEqual(len(set(classes)), 10)
        self.assertEqual([one.__name__ for one in classes], list(FIELDS))


class Fields(unittest.TestCase):

    def test_the_fields_are_the_very_objects(self):
        for name, field in FIELDS.items():
            for thing in EVERY_KIND:
                if field is not None:
                    self.assertIs(getattr(made(name, thing), field), thing, name)

    def test_what_is_kept_is_no_copy(self):
        rows = [1]
        for name, field in FIELDS.items():
            if field is not None:
                error = made(name, rows)
                rows.append(2)
                self.assertIs(getattr(error, field), rows)

    def test_the_fields_are_told_by_their_names_too(self):
        for name, field in FIELDS.items():
            if field is not None:
                thing = object()
                error = getattr(errors, name)(**{field: thing})
                self.assertIs(getattr(error, field), thing)

    def test_one_thing_is_needed_where_there_is_a_field_and_none_elsewhere(self):
        for name, field in FIELDS.items():
            with self.assertRaises(TypeError):
                made(name, *([] if field else [1]))
            with self.assertRaises(TypeError):
                made(name, 1, 2)


class Raising(unittest.TestCase):

    def test_each_is_raised_and_caught_under_its_three_names(self):
        for name in FIELDS:
            for kind in (getattr(errors, name), VouchError, ValueError):
                error = example(name)
                with self.assertRaises(kind) as caught:
                    raise error
                self.assertIs(caught.exception, error)

    def test_none_is_caught_as_another_one(self):
        for name in FIELDS:
            for other in FIELDS:
                caught = isinstance(example(name), getattr(errors, other))
                self.assertEqual(caught, name == other)

    def test_vouch_error_itself_is_raised_and_caught(self):
        with self.assertRaises(ValueError):
            raise VouchError()


if __name__ == "__main__":
    unittest.main()
