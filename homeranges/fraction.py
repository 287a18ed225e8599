"""Fractions as pairs (numerator, denominator), the denominator above 0."""


def common_divisor(m, n):
    """The greatest common divisor of two numbers, neither below 0."""
    while n > 0:
        rest = m % n
        m = n
        n = rest
    return m


def lowest(numerator, denominator):
    """In lowest terms; 0 becomes (0, 1)."""
    divisor = common_divisor(abs(numerator), denominator)
    return (numerator // divisor, denominator // divisor)


def added(one, other):
    return lowest(one[0] * other[1] + other[0] * one[1], one[1] * other[1])


def lesser(one, other):
    """Whether the first is less than the other."""
    return one[0] * other[1] < other[0] * one[1]
