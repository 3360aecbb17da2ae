"""The number of turns of closed ways, counted in another manner than the program does it."""


def moved_far(half, point, scale):
    """The point of 4.1 and 4.2, when all numbers are multiplied by scale times scale."""
    x, y = half.way.pair()
    sign = 1 if half.ahead else -1
    return (point[0] * scale * scale - scale * x - sign * y, point[1] * scale * scale - scale * y + sign * x)


def times_round(half, ways, point):
    """How often closed ways go round the moved point: they are met on the way straight down from it."""
    numbers = [abs(number) for a, b in ways for number in (*a, *b)] + [abs(number) for number in half.way.pair()]
    scale = 100 * (1 + max(numbers) + max(abs(point[0]), abs(point[1]))) ** 2
    x, y = moved_far(half, point, scale)
    found = 0
    for a, b in ways:
        ax, ay, bx, by = [number * scale * scale for number in (*a, *b)]
        if (ax < x) != (bx < x):
            cross = (bx - ax) * (y - ay) - (by - ay) * (x - ax)
            if ax < bx and cross > 0:
                found += 1
            if ax > bx and cross < 0:
                found -= 1
    return found
