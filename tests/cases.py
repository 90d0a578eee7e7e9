"""What several tests ask in the same way."""

import unittest

from tests.samples import shown


class WorthCase(unittest.TestCase):
    def assert_same(self, told, expected):
        """Equal, and truths in no place where whole numbers are due."""
        self.assertEqual(told, expected)
        self.assertEqual(repr(told), repr(expected))

    def assert_refused(self, refusal, function, *arguments):
        with self.subTest(arguments=[shown(argument) for argument in arguments]):
            self.assertRaises(refusal, function, *arguments)
