"""Whole numbers: greatest common divisors of long numbers, and counts of figures."""

import math
import random
import unittest

from restbodies.wholes import LENGTHY, common_divisor, is_short


class Divisors(unittest.TestCase):

    def assert_divisor(self, one, other):
        due = math.gcd(one, other)
        for left, right in [(one, other), (other, one), (-one, other), (one, -other), (-other, -one)]:
            self.assertEqual(common_divisor(left, right), due)

    def test_short(self):
        for one in range(-20, 21):
            for other in range(21):
                self.assert_divisor(one, other)

    def test_long(self):
        dice = random.Random(60)
        for bits in [100, 1000, LENGTHY - 1, LENGTHY, LENGTHY + 1, LENGTHY + 200, 3 * LENGTHY, 9 * LENGTHY]:
            for shared in [1, 50, bits // 2, bits - 3]:
                factor = dice.getrandbits(shared) + 1
                one, other = dice.getrandbits(bits) * factor, dice.getrandbits(bits) * factor
                self.assert_divisor(one, other)
                self.assert_divisor(one, other * dice.getrandbits(bits))

    def test_long_and_close_or_far(self):
        dice = random.Random(61)
        base = 1 << (2 * LENGTHY)
        for other in [base, base + 1, base - 1, 2 * base, 3 * base + 1, 6 * base, base // 8, 0, 1, 7, base * base + 4,
                      base + dice.getrandbits(LENGTHY), (1 << LENGTHY) + 1, 1 << LENGTHY]:
            self.assert_divisor(base, other)
            self.assert_divisor(base - 1, other)
            self.assert_divisor(base * 15, other * 21)

    def test_slowest(self):
        one, other = 1, 1
        while one.bit_length() < 2 * LENGTHY:
            one, other = one + other, one
        self.assert_divisor(one, other)
        self.assert_divisor(one * 12, other * 18)


class Figures(unittest.TestCase):

    def test_is_short(self):
        for number in [0, 1, -1, 10 ** 399, 10 ** 400 - 1, -(10 ** 400 - 1)]:
            self.assertIs(is_short(number), True)
        for number in [10 ** 400, -10 ** 400, 10 ** 5000, -10 ** 9000]:
            self.assertIs(is_short(number), False)


if __name__ == "__main__":
    unittest.main()
