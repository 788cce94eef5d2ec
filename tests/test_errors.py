import unittest

from stepsvanish import errors

NAMES = (
    "InvalidGroup InvalidTarget InvalidElement InvalidValue InvalidVector "
    "InvalidModulus InvalidIndex InvalidPairing InvalidName UnknownName InvalidText "
    "Conflict LimitExceeded Mismatch NotSubgroup NotNormal NotHomomorphism "
    "NotPrimePower DegreeTooHigh NoDegree"
).split()


class ErrorsTest(unittest.TestCase):
    def test_each_class_is_directly_below_the_base(self):
        self.assertEqual(errors.StepError.__bases__, (ValueError,))
        for name in NAMES:
            self.assertEqual(getattr(errors, name).__bases__, (errors.StepError,), name)

    def test_there_are_no_other_errors(self):
        found = [
            name
            for name, worth in vars(errors).items()
            if isinstance(worth, type) and worth.__module__ == errors.__name__
        ]
        self.assertEqual(sorted(found), sorted([*NAMES, "StepError"]))

    def test_no_class_is_caught_as_another(self):
        for name in NAMES:
            for other in NAMES:
                below = issubclass(getattr(errors, name), getattr(errors, other))
                self.assertEqual(below, name == other)

    def test_invalid_text_keeps_its_line(self):
        with self.assertRaises(errors.InvalidText) as caught:
            raise errors.InvalidText(7)
        self.assertEqual(caught.exception.line, 7)
        self.assertTrue(str(caught.exception))

    def test_conflict_keeps_a_copy_of_its_coefficients(self):
        coefficients = [1, 0, 2]
        error = errors.Conflict(1, coefficients)
        coefficients[0] = 9
        self.assertEqual(error.component, 1)
        self.assertEqual(error.coefficients, [1, 0, 2])
        self.assertIsInstance(error.coefficients, list)
        self.assertTrue(str(error))


if __name__ == "__main__":
    unittest.main()
