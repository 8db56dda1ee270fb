import unittest

from stemshelf import errors

OF_NOTHING = ("NoThing", "NoBoards", "Stopped", "NoHouse", "TooMany", "NoPaper", "NoRow")
FIELDS = {
    "Lost": "number",
    "NoName": "name",
    "Twice": "name",
    "Bare": "name",
    "Grown": "name",
    "OverBound": "name",
    "NoPath": "path",
}


class ErrorsTest(unittest.TestCase):
    def test_stem_error_stands_under_value_error(self):
        self.assertEqual(errors.StemError.__bases__, (ValueError,))

    def test_each_class_stands_straight_under_stem_error(self):
        for name in OF_NOTHING + tuple(FIELDS):
            with self.subTest(name):
                self.assertEqual(getattr(errors, name).__bases__, (errors.StemError,))

    def test_no_class_stands_under_another(self):
        classes = [getattr(errors, name) for name in OF_NOTHING + tuple(FIELDS)]
        for one in classes:
            for other in classes:
                self.assertEqual(issubclass(one, other), one is other)

    def test_those_made_of_nothing_have_no_field(self):
        for name in OF_NOTHING:
            with self.subTest(name):
                self.assertEqual(vars(getattr(errors, name)()), {})

    def test_the_others_have_just_the_field_that_was_handed_in(self):
        for name, field in FIELDS.items():
            for told in (7, "oak", "", None):
                with self.subTest(name, told=told):
                    self.assertEqual(vars(getattr(errors, name)(told)), {field: told})

    def test_the_others_are_not_made_of_nothing(self):
        for name in FIELDS:
            with self.subTest(name), self.assertRaises(TypeError):
                getattr(errors, name)()

    def test_they_are_raised_and_taken_by_name(self):
        with self.assertRaises(errors.StemError) as caught:
            raise errors.Lost(12)
        self.assertEqual(caught.exception.number, 12)


if __name__ == "__main__":
    unittest.main()
