"""The refusals: which there are, and what each one is."""

import unittest

from windowdog import errors

NAMES = (
    "BadWindow", "BadPlan", "BadDelays", "BadWorks", "NoPats",
    "NoPlace", "BadTasks", "BadBeat", "TooMuch",
)


class Refusals(unittest.TestCase):
    def test_dog_error_is_a_value_error(self):
        self.assertEqual(errors.DogError.__bases__, (ValueError,))

    def test_each_refusal_stands_directly_under_dog_error(self):
        for name in NAMES:
            with self.subTest(name=name):
                self.assertEqual(getattr(errors, name).__bases__, (errors.DogError,))

    def test_all_are_defined_in_their_file(self):
        for name in NAMES + ("DogError",):
            with self.subTest(name=name):
                kind = getattr(errors, name)
                self.assertEqual((kind.__module__, kind.__name__), ("windowdog.errors", name))

    def test_none_is_another_one(self):
        kinds = [getattr(errors, name) for name in NAMES]
        self.assertEqual(len({id(kind) for kind in kinds}), 9)

    def test_bad_delays_has_its_place(self):
        self.assertEqual(errors.BadDelays(0).at, 0)
        self.assertEqual(errors.BadDelays(17).at, 17)

    def test_the_others_can_be_raised_with_a_text(self):
        for name in NAMES + ("DogError",):
            if name != "BadDelays":
                with self.subTest(name=name), self.assertRaises(ValueError):
                    raise getattr(errors, name)("why")


if __name__ == "__main__":
    unittest.main()
