"""[20] and [4]: the errors."""

import unittest

from recipelayers import errors
from recipelayers.trees import Tree
from samples import Odd, any_values

FIELDS = {
    "Wrong": ["place"], "NoFolder": ["path"], "NoLayer": ["at"], "NoQuotient": [], "NoStage": ["name"],
    "NoStep": ["at"], "TooMany": ["limit"], "Unlike": [], "NoDeed": [], "Nothing": [], "Stopped": ["at"], "NoText": [],
}


class TestErrors(unittest.TestCase):

    def test_classes(self):
        self.assertEqual(errors.LayerError.__bases__, (ValueError,))
        for name in FIELDS:
            with self.subTest(name=name):
                self.assertEqual(getattr(errors, name).__bases__, (errors.LayerError,))

    def test_there_are_no_others(self):
        found = [name for name, thing in vars(errors).items() if isinstance(thing, type)]
        self.assertEqual(sorted(found), sorted([*FIELDS, "LayerError"]))

    def test_fields_are_the_very_objects(self):
        for name, fields in FIELDS.items():
            for worth in [*any_values(), [1], {"a": []}, Odd()]:
                error = getattr(errors, name)(*[worth for _ in fields])
                self.assertEqual(list(vars(error)), fields)
                for field in fields:
                    self.assertIs(getattr(error, field), worth)

    def test_they_are_caught_as_value_errors(self):
        for name, fields in FIELDS.items():
            with self.assertRaises(ValueError):
                raise getattr(errors, name)(*[0 for _ in fields])

    def test_a_field_stays_the_object_when_it_changes(self):
        kept = [1]
        error = errors.Wrong(kept)
        kept.append(2)
        self.assertEqual(error.place, [1, 2])
        self.assertEqual(errors.TooMany(8).limit, 8)

    def test_the_path_of_a_tree(self):
        path = ("a", "b")
        with self.assertRaises(errors.NoFolder) as caught:
            Tree([(path, ("folder", 5))])
        self.assertEqual(caught.exception.path, path)


if __name__ == "__main__":
    unittest.main()
