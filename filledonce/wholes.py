"""What the other files ask of integers."""


def is_whole(value):
    """Tell whether a value is an integer: True and False are none."""
    return isinstance(value, int) and not isinstance(value, bool)


def sign(number):
    """Return 1, 0 or -1 for a number above, at or below 0."""
    if number > 0:
        return 1
    if number < 0:
        return -1
    return 0


def common_divisor(one, other):
    """Return the greatest common divisor of two integers, never below 0."""
    kept = abs(one)
    rest = abs(other)
    while rest > 0:
        kept, rest = rest, kept % rest
    return kept
