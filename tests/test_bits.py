"""11.1 and 11.2: words of so many bits, and how many the test of an edge needs."""

import itertools
import unittest

from filledonce.bits import least_bits, shows_bits, wrapped
from filledonce.errors import InvalidNumber
from filledonce.points import side
from filledonce.triangles import Triangle
from tests.common import GREAT, NO_INTEGERS, Case, square

MOST = 10 ** 29


def sign(number):
    return (number > 0) - (number < 0)


class WrappedTest(Case):
    def test_small_words(self):
        for bits in range(1, 7):
            held = range(-2 ** (bits - 1), 2 ** (bits - 1))
            for number in range(-200, 200):
                found = wrapped(number, bits)
                self.assertIn(found, held)
                self.assertEqual((found - number) % 2 ** bits, 0)

    def test_at_and_beside_the_ends(self):
        for bits in [1, 2, 3, 8, 31, 32, 33, 63, 64, 65, 199, 200]:
            half, whole = 2 ** (bits - 1), 2 ** bits
            for rounds in [0, 1, -1, 5, -7, GREAT]:
                self.assertEqual(wrapped(half - 1 + rounds * whole, bits), half - 1)
                self.assertEqual(wrapped(half + rounds * whole, bits), -half)
                self.assertEqual(wrapped(-half + rounds * whole, bits), -half)
                self.assertEqual(wrapped(-half - 1 + rounds * whole, bits), half - 1)
                self.assertEqual(wrapped(rounds * whole, bits), 0)

    def test_one_bit(self):
        self.assertEqual([wrapped(number, 1) for number in range(-3, 4)], [-1, 0, -1, 0, -1, 0, -1])

    def test_two_hundred_bits(self):
        for number in [GREAT, -GREAT, 0, 2 ** 199 - 1, -2 ** 199]:
            self.assertEqual(wrapped(number, 200), number)
        self.assertEqual(wrapped(2 ** 199, 200), -2 ** 199)

    def test_names(self):
        self.assertEqual(wrapped(bits=4, number=9), -7)
        self.assertEqual(wrapped(number=-9, bits=4), 7)

    def test_wrong_numbers(self):
        for thing in NO_INTEGERS:
            for bits in [4, 0, None]:
                self.assertIs(self.refused(InvalidNumber, wrapped, thing, bits).number, thing)

    def test_wrong_bits(self):
        for thing in [*NO_INTEGERS, 0, 201, -1, 2 ** 200, -GREAT]:
            self.assertIs(self.refused(InvalidNumber, wrapped, 9, thing).number, thing)


class LeastBitsTest(Case):
    def test_first_ones(self):
        self.assertEqual([least_bits(most) for most in range(1, 13)], [2, 4, 5, 6, 6, 7, 7, 8, 8, 8, 8, 9])

    def test_the_least_for_which_the_square_fits(self):
        powers = [2 ** number for number in range(1, 97)]
        for most in [*range(1, 300), *powers, *[power - 1 for power in powers], *[power + 1 for power in powers], MOST,
                     MOST - 1]:
            if most > MOST:
                continue
            bits = least_bits(most)
            self.assertLess(most * most, 2 ** (bits - 1))
            self.assertGreaterEqual(most * most, 2 ** (bits - 2))

    def test_all_points_keep_their_sign_with_no_bit_less(self):
        for most in range(1, 5):
            sides = {side(a, b, point) for a, b, point in itertools.product(square(0, most), repeat=3)}
            bits = least_bits(most)
            self.assertTrue(all(sign(wrapped(found, bits)) == sign(found) for found in sides))
            self.assertTrue(any(sign(wrapped(found, bits - 1)) != sign(found) for found in sides))

    def test_shows_bits(self):
        for most in [*range(1, 200), 2 ** 31 - 1, 2 ** 31, 2 ** 31 + 1, 2 ** 95, 2 ** 95 - 1, MOST, MOST - 1]:
            triangle = shows_bits(most)
            self.assertIs(type(triangle), Triangle)
            for corner in triangle.corners():
                self.assertTrue(0 <= corner.x <= most and 0 <= corner.y <= most)
            bits = least_bits(most)
            self.assertEqual(sign(wrapped(triangle.area2, bits)), 1)
            self.assertNotEqual(sign(wrapped(triangle.area2, bits - 1)), 1)

    def test_names(self):
        self.assertEqual(least_bits(most=7), 7)
        self.assertLess(wrapped(shows_bits(most=7).area2, 6), 0)

    def test_wrong_numbers(self):
        for call in [least_bits, shows_bits]:
            for thing in [*NO_INTEGERS, 0, -1, MOST + 1, -MOST]:
                self.assertIs(self.refused(InvalidNumber, call, thing).number, thing)


if __name__ == "__main__":
    unittest.main()
