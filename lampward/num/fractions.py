"""Fractions: pairs of a numerator and a denominator in lowest terms."""

from math import gcd

from lampward.errors import ZeroBottom


def fraction(n, d):
    """Return the fraction n / d in lowest terms."""
    if d == 0:
        raise ZeroBottom()
    if d < 0:
        return fraction(-n, -d)
    common = gcd(n, d)
    return (n // common, d // common)


def plus(a, b):
    """Return a + b."""
    return fraction(a[0] * b[1] + b[0] * a[1], a[1] * b[1])


def minus(a, b):
    """Return a - b."""
    return fraction(a[0] * b[1] - b[0] * a[1], a[1] * b[1])


def times(a, b):
    """Return a * b."""
    return fraction(a[0] * b[0], a[1] * b[1])


def over(a, b):
    """Return a / b."""
    return fraction(a[0] * b[1], a[1] * b[0])


def total(fractions):
    """Return the sum of a list of fractions."""
    found = (0, 1)
    for part in fractions:
        found = plus(found, part)
    return found


def less(a, b):
    """Tell whether the value of a is less than that of b."""
    return a[0] * b[1] < b[0] * a[1]


def floor(a):
    """Return the greatest integer that is at most a."""
    return a[0] // a[1]


def ceiling(a):
    """Return the least integer that is at least a."""
    return -(-a[0] // a[1])
