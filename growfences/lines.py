"""The least sizes at which a corner is a stake, or a line has one."""

from math import gcd


def corner_size(bottom, corner):
    """The least size at which a grown corner is a stake."""
    return bottom // gcd(bottom, corner[0], corner[1])


def line_size(bottom, tail, head):
    """The least size at which there is a stake on the line through two grown corners."""
    # With the steps across and up between neighbouring stakes, the line at a size is
    # across * y - up * x = size * value / bottom; stakes are on it if that is an integer.
    part = gcd(head[0] - tail[0], head[1] - tail[1])
    value = (head[0] * tail[1] - head[1] * tail[0]) // part
    return bottom // gcd(bottom, value)
