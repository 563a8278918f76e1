"""Fractions as whole numbers."""

from math import lcm


def common_scale(fractions):
    """Return the least number, at least 1, that makes all the fractions whole."""
    scale = 1
    for _, bottom in fractions:
        scale = lcm(scale, bottom)
    return scale


def whole(a, scale):
    """Return the fraction times a scale that makes it whole, an integer."""
    return a[0] * (scale // a[1])
