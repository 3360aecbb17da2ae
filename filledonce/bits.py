"""Words of so many bits, and how many the test of an edge needs."""

from filledonce.errors import InvalidNumber
from filledonce.triangles import Triangle
from filledonce.wholes import is_whole

MOST_BITS = 200
MOST_NUMBER = 10 ** 29


def wrapped(number, bits):
    """Return the number of a word of so many bits that differs from a number by whole rounds."""
    if not is_whole(number):
        raise InvalidNumber(number)
    if not is_whole(bits) or bits < 1 or bits > MOST_BITS:
        raise InvalidNumber(bits)
    middle = 1 << (bits - 1)
    return (number + middle) % (2 * middle) - middle


def check_most(most):
    """Raise InvalidNumber for what is no integer from 1 to 10 ** 29."""
    if not is_whole(most) or most < 1 or most > MOST_NUMBER:
        raise InvalidNumber(most)


def least_bits(most):
    """Return the least number of bits with which the side of points with numbers from 0 to most keeps its sign."""
    check_most(most)
    # No side of such points is farther from 0 than most * most.
    return (most * most).bit_length() + 1


def shows_bits(most):
    """Return a triangle of such points whose area2 has another sign with one bit less."""
    check_most(most)
    return Triangle((0, 0), (most, 0), (0, most))
