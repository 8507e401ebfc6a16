"""What several tests share: exact numbers to hold the program's answers against."""

import unittest
from fractions import Fraction

MILLION_MILLIONS = 10 ** 12


def place(triple):
    return (Fraction(triple[0], triple[2]), Fraction(triple[1], triple[2]))


class ExactCase(unittest.TestCase):
    def assert_whole(self, told, length):
        self.assertIs(type(told), tuple)
        self.assertEqual([type(number) for number in told], [int] * length)
