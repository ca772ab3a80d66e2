"""A test of a refusal: its very class, and that what was handed in stays as it was."""

import copy
import unittest


class RefusingTest(unittest.TestCase):
    def refused(self, kind, function, *handed):
        given = copy.deepcopy(handed)
        with self.assertRaises(kind, msg=repr(handed)) as caught:
            function(*given)
        self.assertIs(type(caught.exception), kind)
        self.assertEqual(repr(given), repr(handed))
