import copy
import unittest

from helpers import CLASS_NAMES
from linegrow import errors


class TestErrors(unittest.TestCase):
    def test_a_grow_error_is_a_value_error(self):
        self.assertEqual(errors.GrowError.__bases__, (ValueError,))

    def test_there_are_seventeen_straight_under_it(self):
        self.assertEqual(len(CLASS_NAMES), 17)
        for name in CLASS_NAMES:
            with self.subTest(name=name):
                self.assertEqual(getattr(errors, name).__bases__, (errors.GrowError,))
                self.assertEqual(getattr(errors, name).__name__, name)

    def test_none_stands_under_another(self):
        for name in CLASS_NAMES:
            for other in CLASS_NAMES:
                with self.subTest(name=name, other=other):
                    under = issubclass(getattr(errors, name), getattr(errors, other))
                    self.assertEqual(under, name == other)

    def test_each_can_be_raised_and_taken_as_any_refusal(self):
        for name in CLASS_NAMES:
            with self.subTest(name=name):
                with self.assertRaises(errors.GrowError):
                    raise getattr(errors, name)("words")

    def test_no_name_has_its_name(self):
        self.assertEqual(errors.NoName("oak").name, "oak")
        self.assertEqual(errors.NoName("").name, "")
        one = errors.NoName("one")
        other = errors.NoName("other")
        self.assertEqual((one.name, other.name), ("one", "other"))
        self.assertEqual(copy.copy(one).name, "one")

    def test_no_name_is_made_of_a_name(self):
        with self.assertRaises(TypeError):
            errors.NoName()

    def test_the_name_is_on_the_object_that_is_taken(self):
        try:
            raise errors.NoName("elm")
        except errors.GrowError as error:
            self.assertEqual(error.name, "elm")


if __name__ == "__main__":
    unittest.main()
