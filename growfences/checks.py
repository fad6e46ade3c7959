"""What the arguments of the package must be, and the errors if they are not."""

from math import gcd

from growfences.errors import (
    Impossible, InvalidCounts, InvalidDirection, InvalidFence, InvalidLine, InvalidLooks, InvalidNumber, InvalidPoint,
    InvalidPoints, InvalidRule, InvalidSide, InvalidSize,
)
from growfences.plane import is_outline

LIMIT = 10 ** 30
GREATEST_BOTTOM = 30
MOST_CORNERS = 10
MOST_POINTS = 20
MOST_ROWS = 30
GREATEST_SEEN_BOTTOM = 12
GREATEST_SEEN_SIZE = 60
MOST_LOOKS = 12


def is_integer(value):
    """Whether a value is an integer; True and False are none."""
    return isinstance(value, int) and not isinstance(value, bool)


def is_between(value, least, greatest):
    """Whether a value is an integer in a range, both ends included."""
    return is_integer(value) and least <= value <= greatest


def is_point(value):
    """Whether a value is a tuple of two integers."""
    return isinstance(value, tuple) and len(value) == 2 and is_integer(value[0]) and is_integer(value[1])


def is_corner(value):
    """Whether a value is a point within the range of corners."""
    return is_point(value) and -LIMIT <= value[0] <= LIMIT and -LIMIT <= value[1] <= LIMIT


def is_bottom(value):
    """Whether a value can be the bottom of a fence."""
    return is_between(value, 1, GREATEST_BOTTOM)


def are_corners(value):
    """Whether a value can be the list of the corners of a fence."""
    if not isinstance(value, list) or not 1 <= len(value) <= MOST_CORNERS:
        return False
    if not all([is_corner(corner) for corner in value]):
        return False
    if len(value) == 1:
        return True
    if len(value) == 2:
        return value[0] < value[1]
    return is_outline(value)


def side_total(corners):
    """How many sides a fence with these corners has."""
    if len(corners) == 1:
        return 0
    return len(corners)


def are_open_sides(value, total):
    """Whether a value can be the list of the open sides of a fence with this many sides."""
    if not isinstance(value, list):
        return False
    least = 0
    for side in value:
        if not is_between(side, least, total - 1):
            return False
        least = side + 1
    return True


def is_fraction(value):
    """Whether a value is a fraction, in lowest terms."""
    return is_point(value) and value[1] >= 1 and gcd(value[0], value[1]) == 1


def is_rule_row(value):
    """Whether a value is a tuple of three fractions."""
    return isinstance(value, tuple) and len(value) == 3 and all([is_fraction(part) for part in value])


def check_bottom(value):
    """Raise InvalidFence unless a value can be the bottom of a fence."""
    if not is_bottom(value):
        raise InvalidFence("bottom")


def check_fence(value):
    """Raise InvalidFence unless a value is a fence."""
    if not isinstance(value, tuple) or len(value) != 3:
        raise InvalidFence(None)
    bottom, corners, sides = value
    check_bottom(bottom)
    if not are_corners(corners):
        raise InvalidFence("corners")
    if not are_open_sides(sides, side_total(corners)):
        raise InvalidFence("sides")


def check_points(value):
    """Raise InvalidPoints unless a value is a list of points for a hull."""
    if not isinstance(value, list) or not 1 <= len(value) <= MOST_POINTS:
        raise InvalidPoints(None)
    for index, point in enumerate(value):
        if not is_corner(point):
            raise InvalidPoints(index)


def check_size(value):
    """Raise InvalidSize unless a value is a size that can be passed."""
    if not is_between(value, 1, LIMIT):
        raise InvalidSize("a size is an integer from 1 to 10 ** 30")


def check_side(value, corners):
    """Raise InvalidSide unless a value is the number of a side of a fence with these corners."""
    if not is_between(value, 0, side_total(corners) - 1):
        raise InvalidSide("the fence has no such side")


def check_point(value):
    """Raise InvalidPoint unless a value is a tuple of two integers."""
    if not is_point(value):
        raise InvalidPoint("a point is a tuple of two integers")


def check_row(value):
    """Raise InvalidNumber unless a value is an integer."""
    if not is_integer(value):
        raise InvalidNumber("a row is an integer")


def check_number(value):
    """Raise InvalidNumber unless a value is an integer from 0 on."""
    if not is_integer(value) or value < 0:
        raise InvalidNumber("a number of stakes is an integer from 0 on")


def check_closed(value):
    """Raise InvalidFence unless a value is a closed fence."""
    check_fence(value)
    if value[2] != []:
        raise InvalidFence("sides")


def check_rule(value):
    """Raise InvalidRule unless a value is a list of rows of three fractions."""
    if not isinstance(value, list) or not 1 <= len(value) <= MOST_ROWS:
        raise InvalidRule(None)
    for index, row in enumerate(value):
        if not is_rule_row(row):
            raise InvalidRule(index)


def check_rule_size(value):
    """Raise InvalidSize unless a value is an integer, at which a rule has a value."""
    if not is_integer(value):
        raise InvalidSize("a rule has values at integers")


def check_counts(value):
    """Raise InvalidCounts unless a value is a list of integers, three for each row of a rule."""
    if not isinstance(value, list) or not 3 <= len(value) <= 3 * MOST_ROWS or len(value) % 3 != 0:
        raise InvalidCounts(None)
    for index, number in enumerate(value):
        if not is_integer(number):
            raise InvalidCounts(index)


def check_field(value):
    """Raise Impossible unless a fence is a field."""
    if len(value[1]) < 3:
        raise Impossible("the fence is no field")


def check_direction(value):
    """Raise InvalidDirection unless a value is a direction."""
    if not is_point(value) or value == (0, 0):
        raise InvalidDirection("a direction is a tuple of two integers, not both 0")


def is_line(value):
    """Whether a value is a line."""
    if not isinstance(value, tuple) or len(value) != 3 or not all([is_integer(number) for number in value]):
        return False
    return value[:2] != (0, 0)


def check_line(value):
    """Raise InvalidLine unless a value is a line."""
    if not is_line(value):
        raise InvalidLine("a line is a tuple of three integers, the first two not both 0")


def check_seen_bottom(value):
    """Raise InvalidNumber unless a value can be the bottom of a field that is seen."""
    if not is_between(value, 1, GREATEST_SEEN_BOTTOM):
        raise InvalidNumber("the bottom of what is seen is an integer from 1 to 12")


def is_look(value):
    """Whether a value is a tuple of a size that can be seen and a count."""
    if not is_point(value):
        return False
    return 1 <= value[0] <= GREATEST_SEEN_SIZE and value[1] >= 0


def check_looks(value):
    """Raise InvalidLooks unless a value is a list of looks."""
    if not isinstance(value, list) or len(value) > MOST_LOOKS:
        raise InvalidLooks(None)
    for index, look in enumerate(value):
        if not is_look(look):
            raise InvalidLooks(index)


def check_last(value):
    """Raise InvalidNumber unless a value is a size that can be seen."""
    if not is_between(value, 1, GREATEST_SEEN_SIZE):
        raise InvalidNumber("the last size is an integer from 1 to 60")
