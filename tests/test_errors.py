import unittest

from worthkinds import errors

REFUSALS = ["NoKind", "NoWorth", "NoRule", "TooMany", "Ended", "NoText", "NoBack"]


class ErrorsTest(unittest.TestCase):
    def test_worth_error_stands_under_value_error(self):
        self.assertEqual(errors.WorthError.__bases__, (ValueError,))

    def test_refusals_stand_under_worth_error(self):
        for name in REFUSALS:
            with self.subTest(name=name):
                self.assertTrue(issubclass(getattr(errors, name), errors.WorthError))

    def test_no_refusal_stands_under_another(self):
        classes = [getattr(errors, name) for name in REFUSALS]
        for one in classes:
            for other in classes:
                with self.subTest(one=one, other=other):
                    self.assertEqual(issubclass(one, other), one is other)

    def test_refusals_carry_words(self):
        for name in REFUSALS:
            with self.subTest(name=name):
                self.assertEqual(str(getattr(errors, name)("words")), "words")
