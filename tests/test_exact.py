"""Whole roots, common divisors and lowest terms, held against Python's own."""

import math
import random
import unittest
from fractions import Fraction

from fractioncode.exact import TooLarge, common_divisor, fraction_text, whole_root
from fractioncode.sorts import Number


class ExactTest(unittest.TestCase):
    def test_whole_root(self):
        numbers = list(range(5000))
        for exponent in range(2, 400, 3):
            for base in (2, 3, 10):
                numbers += [base ** exponent - 1, base ** exponent, base ** exponent + 1]
                numbers += [base ** (2 * exponent) - 1, base ** (2 * exponent), base ** (2 * exponent) + 1]
                root = base ** exponent - 1
                numbers += [root * root - 1, root * root, root * root + 1, root * root + 2 * root]
        for number in numbers:
            self.assertEqual(whole_root(number), math.isqrt(number))

    def test_whole_root_of_long_numbers(self):
        for root in (7 ** 20000, 10 ** 20000 - 1, 2 ** 60000 + 1):
            for number in (root * root - 1, root * root, root * root + 2 * root):
                self.assertEqual(whole_root(number), math.isqrt(number))

    def test_common_divisor(self):
        for a in range(-30, 31):
            for b in range(1, 31):
                self.assertEqual(common_divisor(a, b), math.gcd(a, b))

    def test_fraction_text(self):
        chance = random.Random(5)
        for round in range(300):
            digits = chance.choice((5, 300, 990, 999, 1000, 1001, 1005, 3000))
            factor = chance.randrange(1, 10 ** chance.choice((1, 20, 2000, 15000)))
            top = chance.randrange(-10 ** digits, 10 ** digits)
            bottom = chance.randrange(1, 10 ** min(digits, chance.choice((1, 700, 3000))))
            fraction = Fraction(top, bottom)
            number = Number(top * factor, bottom * factor, 1)
            if max(abs(fraction.numerator), fraction.denominator) < 10 ** 1000:
                self.assertEqual(fraction_text(number), str(fraction))
            else:
                self.assertRaises(TooLarge, fraction_text, number)


if __name__ == "__main__":
    unittest.main()
