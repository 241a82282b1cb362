"""Point 11, and what point 4 says of every error."""

import unittest

from leastlaid import errors
from leastlaid.errors import Faulty, LaidError, NoChange, NoCommand, NoFile, NoStyle, Nothing, TooMany, Wrong
from tests.values import OTHERS, STRANGE

FIELDS = (
    (Wrong, "place"), (Faulty, "faults"), (NoStyle, "line"), (TooMany, "most"), (NoChange, "change"), (NoFile, "path"),
)
BARE = (Nothing, NoCommand)


class Errors(unittest.TestCase):
    def test_classes(self):
        self.assertEqual(LaidError.__bases__, (ValueError,))
        for kind in [kind for kind, _ in FIELDS] + list(BARE):
            self.assertEqual(kind.__bases__, (LaidError,))
        found = {name for name, thing in vars(errors).items() if isinstance(thing, type)}
        self.assertEqual(len(found), 9)
        for name in found:
            self.assertEqual(getattr(errors, name).__module__, "leastlaid.errors")

    def test_fields_are_the_objects(self):
        for kind, field in FIELDS:
            for thing in OTHERS + STRANGE + ("text", object(), kind):
                error = kind(thing)
                self.assertIs(getattr(error, field), thing)
                self.assertEqual(vars(error), {field: thing})

    def test_fields_change_with_the_objects(self):
        for kind, field in FIELDS:
            row, table = [1], {"a": [1]}
            one, other = kind(row), kind(table)
            row.append(2)
            table["b"] = row
            self.assertIs(getattr(one, field), row)
            self.assertEqual(getattr(one, field), [1, 2])
            self.assertIs(getattr(other, field), table)
            self.assertEqual(getattr(other, field), {"a": [1], "b": [1, 2]})

    def test_bare_ones(self):
        for kind in BARE:
            self.assertEqual(vars(kind()), {})

    def test_each_is_caught_as_itself_alone(self):
        kinds = [kind for kind, _ in FIELDS] + list(BARE)
        for kind in kinds:
            error = kind() if kind in BARE else kind(0)
            self.assertIsInstance(error, LaidError)
            self.assertIsInstance(error, ValueError)
            self.assertEqual([other for other in kinds if isinstance(error, other)], [kind])

    def test_one_argument_each(self):
        for kind, _ in FIELDS:
            with self.assertRaises(TypeError):
                kind()
            with self.assertRaises(TypeError):
                kind(1, 2)


if __name__ == "__main__":
    unittest.main()
