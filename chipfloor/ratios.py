"""Ratios: pairs (numerator, denominator) in lowest terms, the denominator positive."""

from math import gcd


def ratio(numerator, denominator):
    """The ratio of an integer to one above 0."""
    common = gcd(numerator, denominator)
    return (numerator // common, denominator // common)
