"""What the test cases share."""

import re
import unittest

from tests.samples import same


def is_name(value):
    return type(value) is str and re.fullmatch("[a-z]{1,8}", value) is not None


def is_path(value):
    return type(value) is str and re.fullmatch("([a-z]{1,8}(/[a-z]{1,8})*)?", value) is not None


class Case(unittest.TestCase):
    def fails(self, error, fields, call, *values, **named):
        """The call raises just this error, with these values of its fields."""
        with self.assertRaises(error) as held:
            call(*values, **named)
        self.assertIs(type(held.exception), error)
        got = tuple(vars(held.exception).values())
        for one, other in zip(got, fields):
            self.assertTrue(one is other or same(one, other), (got, fields))
        self.assertEqual(len(got), len(fields))

    def same(self, got, wanted):
        self.assertTrue(same(got, wanted), (got, wanted))
