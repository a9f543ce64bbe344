"""The error classes (point 4)."""

import unittest

from trunkweb import errors

NAMES = """OutOfRange BadLine BadVertex BadPrice BadEdge TooMany NoPath SameVertex TooMuch BadTerminal
Joined BadRow BadPair BadPrize ZeroDivisor BadRelation WrongSize BadFixing BadSet NothingToUndo""".split()


class Errors(unittest.TestCase):
    def test_base(self):
        self.assertEqual(errors.WebError.__bases__, (ValueError,))
        self.assertEqual(errors.WebError(7).at, 7)

    def test_each_class_stands_directly_below_the_base(self):
        self.assertEqual(len(NAMES), 20)
        for name in NAMES:
            with self.subTest(name):
                made = getattr(errors, name)
                self.assertEqual(made.__bases__, (errors.WebError,))
                self.assertEqual(made.__module__, "trunkweb.errors")
                self.assertEqual(made(-3).at, -3)
                self.assertEqual(vars(made(12)), {"at": 12})

    def test_each_can_be_caught_as_the_base(self):
        for name in NAMES:
            with self.assertRaises(errors.WebError) as caught:
                raise getattr(errors, name)(5)
            self.assertEqual(caught.exception.at, 5)
            self.assertIsInstance(caught.exception, ValueError)


if __name__ == "__main__":
    unittest.main()
