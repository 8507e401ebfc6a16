"""The interface of seamarks.errors, with the refusals of points 21, 22 and 24."""

import unittest

from seamarks import errors

MADE_WITH_A_TEXT = (
    "BadName", "Taken", "BadPlace", "Full", "NoMark", "Same", "Needed", "BadBank",
    "NoBank", "BadRun", "NoRun", "NoMoment", "BadWay", "BadTurn", "NoNote", "NothingLeft",
)


class ErrorsTest(unittest.TestCase):
    def test_mark_error_is_straight_under_value_error(self):
        self.assertEqual(errors.MarkError.__bases__, (ValueError,))
        self.assertEqual(str(errors.MarkError("any refusal")), "any refusal")

    def test_each_refusal_is_straight_under_mark_error(self):
        for name in MADE_WITH_A_TEXT + ("BadRow",):
            with self.subTest(name):
                self.assertEqual(getattr(errors, name).__bases__, (errors.MarkError,))

    def test_the_refusals_are_seventeen_classes_of_their_own(self):
        classes = [getattr(errors, name) for name in MADE_WITH_A_TEXT + ("BadRow",)]
        self.assertEqual(len(set(classes)), 17)
        for one in classes:
            self.assertEqual([other for other in classes if issubclass(one, other)], [one])

    def test_each_class_is_called_by_its_name(self):
        for name in MADE_WITH_A_TEXT + ("BadRow", "MarkError"):
            self.assertEqual(getattr(errors, name).__name__, name)

    def test_each_is_made_with_a_text(self):
        for name in MADE_WITH_A_TEXT:
            with self.subTest(name):
                error = getattr(errors, name)("words of its own")
                self.assertEqual(str(error), "words of its own")

    def test_each_is_taken_as_itself_as_mark_error_and_as_value_error(self):
        for name in MADE_WITH_A_TEXT:
            for taken in (getattr(errors, name), errors.MarkError, ValueError):
                with self.subTest(name=name, taken=taken.__name__):
                    with self.assertRaises(taken):
                        raise getattr(errors, name)("refused")

    def test_none_is_taken_as_another(self):
        for name in MADE_WITH_A_TEXT:
            for other in MADE_WITH_A_TEXT + ("BadRow",):
                if other != name:
                    made = getattr(errors, name)("refused")
                    self.assertNotIsInstance(made, getattr(errors, other))

    def test_bad_row_has_its_number(self):
        for at in (0, 1, 7, 10 ** 12):
            with self.subTest(at):
                error = errors.BadRow(at)
                self.assertEqual(error.at, at)
                self.assertIs(type(error.at), int)

    def test_each_bad_row_keeps_its_own_number(self):
        one = errors.BadRow(3)
        other = errors.BadRow(4)
        self.assertEqual((one.at, other.at), (3, 4))
        self.assertFalse(hasattr(errors.BadRow, "at"))

    def test_bad_row_is_raised_and_taken(self):
        for taken in (errors.BadRow, errors.MarkError, ValueError):
            with self.assertRaises(taken) as caught:
                raise errors.BadRow(5)
            self.assertEqual(caught.exception.at, 5)
            self.assertIsInstance(str(caught.exception), str)


if __name__ == "__main__":
    unittest.main()
