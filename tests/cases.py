"""What all test classes share."""

import copy
import unittest

from trunkweb.networks.network import Network
from trunkweb.places.order import Order
from trunkweb.programs.program import Program


class Case(unittest.TestCase):
    """A test case with checks for told errors, and for arguments and answers that may be changed."""

    def fails(self, error, at, call, *given):
        """Test that a call raises just this error with this number."""
        with self.assertRaises(error) as caught:
            call(*given)
        self.assertIs(caught.exception.__class__, error)
        self.assertEqual(caught.exception.at, at)

    def steady(self, call, *given):
        """Return the answer of a call, and test that it keeps what it is given and tells new lists."""
        before = [keep(value) for value in given]
        first = call(*given)
        self.assertEqual([keep(value) for value in given], before)
        kept = keep(first)
        spoil(first)
        second = call(*given)
        self.assertEqual(keep(second), kept)
        self.assertEqual([keep(value) for value in given], before)
        return second


def keep(value):
    """Return a copy of a value that can be compared."""
    if isinstance(value, Network):
        return value.size(), value.edges()
    if isinstance(value, Program):
        return value.prices(), value.rows()
    if isinstance(value, Order):
        return value.openings(), value.ways()
    if isinstance(value, (list, tuple)):
        return type(value)(keep(item) for item in value)
    return copy.deepcopy(value)


def spoil(value):
    """Change every list in a value, and every list in it."""
    if isinstance(value, (list, tuple)):
        for item in value:
            spoil(item)
    if isinstance(value, list):
        value.append("spoilt")
        value.reverse()
