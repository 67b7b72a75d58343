"""Whole roots and common divisors, held against Python's own."""

import math
import unittest

from fractioncode.exact import common_divisor, whole_root


class ExactTest(unittest.TestCase):
    def test_whole_root(self):
        numbers = list(range(5000))
        for exponent in range(2, 400, 3):
            for base in (2, 3, 10):
                numbers += [base ** exponent - 1, base ** exponent, base ** exponent + 1]
                numbers += [base ** (2 * exponent) - 1, base ** (2 * exponent), base ** (2 * exponent) + 1]
                root = base ** exponent - 1
                numbers += [root * root - 1, root * root, root * root + 1, root * root + 2 * root]
        for number in numbers:
            self.assertEqual(whole_root(number), math.isqrt(number))

    def test_whole_root_of_long_numbers(self):
        for root in (7 ** 20000, 10 ** 20000 - 1, 2 ** 60000 + 1):
            for number in (root * root - 1, root * root, root * root + 2 * root):
                self.assertEqual(whole_root(number), math.isqrt(number))

    def test_common_divisor(self):
        for a in range(-30, 31):
            for b in range(1, 31):
                self.assertEqual(common_divisor(a, b), math.gcd(a, b))


if __name__ == "__main__":
    unittest.main()
