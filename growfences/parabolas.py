"""Parabolas over integers, and the spans of integers from 0 on in which they are below 0 or at 0.

A parabola is a tuple (square, linear, constant) of integers. A span is a tuple (first, last) of
integers, last None if it never ends; lists of spans ascend, and no two of them touch.
"""

from math import isqrt


def double_through(zeroth, first, second):
    """The parabola with twice these values at 0, 1 and 2: twice, so that its numbers are integers."""
    square = second - 2 * first + zeroth
    return (square, 2 * (first - zeroth) - square, 2 * zeroth)


def value_of(parabola, place):
    """The value of a parabola at an integer."""
    square, linear, constant = parabola
    return (square * place + linear) * place + constant


def sum_of(parabola, many):
    """The sum of the values of a parabola at the integers from 0 to many - 1."""
    square, linear, constant = parabola
    pairs = many * (many - 1) // 2
    return square * (pairs * (2 * many - 1) // 3) + linear * pairs + constant * many


def span_to(first, last):
    """The integers from 0 on in a range, as a list of no span or one."""
    first = max(first, 0)
    if first > last:
        return []
    return [(first, last)]


def gaps_of(spans):
    """The spans of all integers from 0 on that are in none of these spans."""
    gaps, start = [], 0
    for first, last in spans:
        gaps.extend(span_to(start, first - 1))
        if last is None:
            return gaps
        start = last + 1
    gaps.append((start, None))
    return gaps


def spans_below(parabola):
    """The spans of the integers from 0 on at which a parabola is below 0."""
    square, linear, constant = parabola
    if (square, linear) < (0, 0):
        # It is below 0 where the opposite one is not at most 0, so not below 1.
        return gaps_of(spans_below((-square, -linear, -constant - 1)))
    if (square, linear) == (0, 0):
        return [(0, None)] if constant < 0 else []
    if square == 0:
        return span_to(0, (-constant - 1) // linear)
    # Below 0 means at most -1 here, and so an odd or even number 2 * square * x + linear
    # whose own square is at most this one.
    bound = linear * linear - 4 * square * (constant + 1)
    if bound < 0:
        return []
    root = isqrt(bound)
    return span_to(-((root + linear) // (2 * square)), (root - linear) // (2 * square))


def spans_at(parabola):
    """The spans of the integers from 0 on at which a parabola is 0."""
    square, linear, constant = parabola
    apart = spans_below(parabola) + spans_below((-square, -linear, -constant))
    return gaps_of(sorted(apart, key=lambda span: span[0]))
