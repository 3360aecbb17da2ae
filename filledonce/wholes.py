"""What the other files ask of integers."""


def is_whole(value):
    """Tell whether a value is an integer: True and False are none."""
    return isinstance(value, int) and not isinstance(value, bool)


def sign(number):
    """Return 1, 0 or -1 for a number above, at or below 0."""
    if number > 0:
        return 1
    if number < 0:
        return -1
    return 0


def common_divisor(one, other):
    """Return the greatest common divisor of two integers, never below 0."""
    kept = abs(one)
    rest = abs(other)
    while rest > 0:
        kept, rest = rest, kept % rest
    return kept


def is_index(value, many):
    """Tell whether a value is an integer from 0 to many less 1."""
    return is_whole(value) and 0 <= value < many


def ascending(pairs):
    """Return a list of the pairs of integers, each once, ascending by the first number and then by the second."""
    if len(pairs) == 0:
        return []
    least = min([int(second) for first, second in pairs])
    width = max([int(second) for first, second in pairs]) - least + 1
    # Objects with an order bar sorting anything but plain numbers, so each pair is written as one.
    marks = {first * width + second - least: True for first, second in pairs}
    ordered = sorted([int(mark) for mark in marks])
    return [(mark // width, mark % width + least) for mark in ordered]
