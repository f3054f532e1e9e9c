"""Section 1 of the interface: the errors."""
import unittest

from greenroads import errors

WITH_TEXT = [
    "InvalidCycle", "InvalidSignal", "InvalidMoment", "InvalidNumber", "InvalidIndex", "InvalidRuns",
    "InvalidPassage", "OtherCycle", "InvalidWindows", "Backward", "InvalidRoad", "NotPlain", "InvalidNet",
    "InvalidPlace", "InvalidParts", "InvalidCourse", "InvalidStep", "Nothing", "InvalidCommand"]
WITH_ARGUMENTS = {
    "InvalidText": ("index",), "TooLarge": ("limit",), "InvalidStreets": ("row",), "InvalidChanges": ("row",),
    "InvalidRecords": ("row",), "Contradiction": ("first", "second")}


class Errors(unittest.TestCase):
    def test_base_class(self):
        self.assertEqual(errors.GreenError.__bases__, (ValueError,))
        self.assertEqual(str(errors.GreenError("why")), "why")

    def test_each_class_derives_directly_from_the_base_class(self):
        for name in WITH_TEXT + list(WITH_ARGUMENTS):
            with self.subTest(name):
                error = getattr(errors, name)
                self.assertEqual(error.__bases__, (errors.GreenError,))
                self.assertEqual((error.__name__, error.__module__), (name, "greenroads.errors"))

    def test_no_class_is_missing_or_too_many(self):
        found = [name for name, value in vars(errors).items() if isinstance(value, type)]
        self.assertEqual(sorted(found), sorted(WITH_TEXT + list(WITH_ARGUMENTS) + ["GreenError"]))

    def test_errors_with_one_string(self):
        for name in WITH_TEXT:
            with self.subTest(name):
                with self.assertRaises(errors.GreenError) as caught:
                    raise getattr(errors, name)("some words")
                self.assertEqual(str(caught.exception), "some words")
                self.assertEqual(type(caught.exception).__name__, name)

    def test_arguments_are_kept_in_attributes(self):
        for name, words in WITH_ARGUMENTS.items():
            for values in [(3, 4), (0, 0), (None, None), (10 ** 30, 7)]:
                with self.subTest(name, values=values):
                    told = dict(zip(words, values))
                    for error in [getattr(errors, name)(*told.values()), getattr(errors, name)(**told)]:
                        self.assertEqual({word: getattr(error, word) for word in words}, told)
                        self.assertEqual(vars(error), told)
                        self.assertIsInstance(str(error), str)

    def test_each_class_is_caught_by_itself_alone(self):
        for name in WITH_TEXT:
            for other in WITH_TEXT + list(WITH_ARGUMENTS):
                caught = isinstance(getattr(errors, name)("why"), getattr(errors, other))
                self.assertEqual(caught, name == other)


if __name__ == "__main__":
    unittest.main()
