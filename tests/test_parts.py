import random
import unittest
from fractions import Fraction

from slopeyard.parts import less, lowest, minus, plus, times
from tests.reckoning import pair, value

BIG = 10 ** 20 - 1


class PartsTest(unittest.TestCase):
    def test_lowest(self):
        self.assertEqual(lowest(6, 4), (3, 2))
        self.assertEqual(lowest(-6, 4), (-3, 2))
        self.assertEqual(lowest(0, 17), (0, 1))
        self.assertEqual(lowest(5, 1), (5, 1))
        self.assertEqual(lowest(-7, 7), (-1, 1))
        self.assertEqual(lowest(BIG * 2, BIG * 4), (1, 2))

    def test_by_name(self):
        self.assertEqual(lowest(num=2, den=6), (1, 3))
        self.assertEqual(plus(one=(1, 2), other=(1, 3)), (5, 6))
        self.assertEqual(minus(one=(1, 2), other=(1, 3)), (1, 6))
        self.assertEqual(times(one=(1, 2), other=(1, 3)), (1, 6))
        self.assertIs(less(one=(1, 3), other=(1, 2)), True)

    def test_not_in_lowest_terms(self):
        self.assertEqual(plus((2, 4), (3, 6)), (1, 1))
        self.assertEqual(minus((2, 4), (3, 6)), (0, 1))
        self.assertEqual(times((2, 4), (-4, 6)), (-1, 3))
        self.assertEqual(times((0, 4), (-4, 6)), (0, 1))
        self.assertIs(less((2, 4), (3, 6)), False)

    def test_less_is_strict_and_a_truth_value(self):
        self.assertIs(less((1, 2), (1, 2)), False)
        self.assertIs(less((-1, 2), (-1, 3)), True)
        self.assertIs(less((-1, 3), (-1, 2)), False)
        self.assertIs(less((0, 5), (0, 1)), False)
        self.assertIs(less((BIG - 1, BIG), (BIG, BIG)), True)

    def test_against_fractions(self):
        source = random.Random(3)
        for _ in range(300):
            most = source.choice([6, BIG])
            one = (source.randint(-most, most), source.randint(1, most))
            other = (source.randint(-most, most), source.randint(1, most))
            self.assertEqual(lowest(*one), pair(value(one)))
            self.assertEqual(plus(one, other), pair(value(one) + value(other)))
            self.assertEqual(minus(one, other), pair(value(one) - value(other)))
            self.assertEqual(times(one, other), pair(value(one) * value(other)))
            self.assertIs(less(one, other), Fraction(*one) < Fraction(*other))

    def test_told_are_pairs_of_numbers(self):
        for told in (lowest(4, 2), plus((1, 2), (1, 2)), minus((1, 2), (1, 2)), times((1, 2), (4, 2))):
            self.assertIs(type(told), tuple)
            self.assertEqual([type(part) for part in told], [int, int])


if __name__ == "__main__":
    unittest.main()
