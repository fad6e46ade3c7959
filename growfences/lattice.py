"""Exact sums, remainders and fractions over integers, in few steps for numbers of any size."""

from math import gcd


def least_from(top, bottom, beyond):
    """The least integer that is at least top / bottom, or, if `beyond`, above it."""
    if beyond:
        return top // bottom + 1
    return -(-top // bottom)


def greatest_to(top, bottom, beyond):
    """The greatest integer that is at most top / bottom, or, if `beyond`, below it."""
    return -least_from(-top, bottom, beyond)


def fraction_of(top, bottom):
    """The fraction top / bottom without a common divisor, for a bottom above 0."""
    part = gcd(top, bottom)
    return (top // part, bottom // part)


def inverse_of(number, modulus):
    """The remainder that makes 1 with a number, which has no common divisor with the modulus."""
    divisor, rest = modulus, number % modulus
    before, factor = 0, 1
    while rest != 0:
        times = divisor // rest
        divisor, rest = rest, divisor - times * rest
        before, factor = factor, before - times * factor
    return before % modulus


def floor_sum(many, slope, start, step):
    """The sum of (slope * i + start) // step for i from 0 to many - 1, with a step above 0."""
    total = 0
    while many > 0:
        whole, slope = divmod(slope, step)
        total += whole * (many * (many - 1) // 2)
        whole, start = divmod(start, step)
        total += whole * many
        # What is left are the places under a line; counted by columns instead of
        # rows, slope and step change places, as in Euclid's algorithm.
        many, start = divmod(slope * many + start, step)
        slope, step = step, slope
    return total
