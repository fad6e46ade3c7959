"""The stakes of a grown fence, laid out in pieces that ascend."""

from math import gcd

from growfences.lattice import floor_sum, greatest_to, inverse_of, least_from
from growfences.plane import next_corner


class Run:
    """Stakes at equal steps: the first one, the step to the next one, and how many, at least one."""

    def __init__(self, start, step, many):
        self.start = start
        self.step = step
        self.many = many

    def whole_count(self):
        """How many stakes there are."""
        return self.many

    def count_to(self, row):
        """How many of the stakes have a y of at most a row."""
        y, up = self.start[1], self.step[1]
        if row < y:
            return 0
        if up == 0:
            return self.many
        return min(self.many, (row - y) // up + 1)

    def stake_at(self, index):
        """The stake with an index."""
        return (self.start[0] + index * self.step[0], self.start[1] + index * self.step[1])

    def row_ends(self, row):
        """The least x and the greatest x in a row, None if there is no stake."""
        y, up = self.start[1], self.step[1]
        if up == 0:
            if row != y:
                return None
            return (self.start[0], self.stake_at(self.many - 1)[0])
        index, rest = divmod(row - y, up)
        if rest != 0 or not 0 <= index < self.many:
            return None
        x = self.stake_at(index)[0]
        return (x, x)


class Strip:
    """The stakes in the rows from one to another one, each row from a left line to a right line."""

    def __init__(self, first, last, left, right):
        self.first = first
        self.last = last
        self.left = left
        self.right = right

    def whole_count(self):
        """How many stakes there are."""
        return self.count_to(self.last)

    def count_to(self, row):
        """How many of the stakes have a y of at most a row."""
        many = min(row, self.last) - self.first + 1
        if many <= 0:
            return 0
        # The lines do not meet between these rows, so no row counts less than 0 here.
        return reach_sum(self.left, self.first, many) + reach_sum(self.right, self.first, many) + many

    def stake_at(self, index):
        """The stake with an index."""
        low, high = self.first, self.last
        while low < high:
            middle = (low + high) // 2
            if self.count_to(middle) > index:
                high = middle
            else:
                low = middle + 1
        return (index - self.count_to(low - 1) - reach(self.left, low), low)

    def row_ends(self, row):
        """The least x and the greatest x in a row, None if there is no stake."""
        if not self.first <= row <= self.last:
            return None
        return ends_or_none(-reach(self.left, row), reach(self.right, row))


def ends_or_none(least, greatest):
    """Both ends of a row, None if there is nothing between them."""
    if least > greatest:
        return None
    return (least, greatest)


def reach(line, row):
    """How far a line (across, up, bound) lets a row go: its greatest x, or its least x times -1."""
    across, up, bound = line
    return (up * row - bound) // abs(across)


def reach_sum(line, row, many):
    """The sum of the reaches of a line over many rows from a row on."""
    across, up, bound = line
    return floor_sum(many, up, up * row - bound, abs(across))


def field_lines(fence, size):
    """For each side of a grown field the line (across, up, bound).

    A stake belongs to the field if across * x + up * y is at least the bound, for each side.
    """
    bottom, corners, sides = fence
    lines = []
    for side, (x, y) in enumerate(corners):
        next_x, next_y = next_corner(corners, side)
        part = gcd(next_x - x, next_y - y)
        across, up = (y - next_y) // part, (next_x - x) // part
        lines.append((across, up, least_from(size * (across * x + up * y), bottom, side in sides)))
    return lines


def field_row(lines, row):
    """The least x and the greatest x of the stakes of a field in a row, None if there are none."""
    for across, up, bound in lines:
        if across == 0 and up * row < bound:
            return None
    least = max([-reach(line, row) for line in lines if line[0] > 0])
    greatest = min([reach(line, row) for line in lines if line[0] < 0])
    return ends_or_none(least, greatest)


def row_runs(lines, row):
    """The stakes of a field in a row, as a list of no run or one."""
    ends = field_row(lines, row)
    if ends is None:
        return []
    return [Run((ends[0], row), (1, 0), ends[1] - ends[0] + 1)]


def strips_between(fence, size, lines, low, high):
    """The rows strictly between two neighbouring heights of corners, as a list of no strip or one."""
    bottom, corners, _ = fence
    first, last = least_from(size * low, bottom, True), greatest_to(size * high, bottom, True)
    if first > last:
        return []
    left = right = None
    for side, (_, tail) in enumerate(corners):
        head = next_corner(corners, side)[1]
        # The corners are listed counterclockwise: sides lead up on the right, down on the left.
        if tail <= low and high <= head:
            right = lines[side]
        if head <= low and high <= tail:
            left = lines[side]
    return [Strip(first, last, left, right)]


def field_pieces(fence, size):
    """The pieces of a grown field: the rows of its corners, and what is between them.

    In the row of a corner two lines count on one side; between such rows just one does.
    """
    bottom, corners, _ = fence
    lines = field_lines(fence, size)
    heights = sorted({corner[1] for corner in corners})
    pieces = []
    for index, height in enumerate(heights):
        if index > 0:
            pieces.extend(strips_between(fence, size, lines, heights[index - 1], height))
        row, rest = divmod(size * height, bottom)
        if rest == 0:
            pieces.extend(row_runs(lines, row))
    return pieces


def point_runs(bottom, size, corner):
    """The stake at a grown corner, as a list of no run or one."""
    x, y = corner
    if size * x % bottom != 0 or size * y % bottom != 0:
        return []
    return [Run((size * x // bottom, size * y // bottom), (1, 0), 1)]


def between_runs(bottom, size, one, two):
    """The stakes between two grown ends (y, x, whether it is left out), as a list of no run or one."""
    low, high = sorted([one, two])
    part = gcd(high[1] - low[1], high[0] - low[0])
    across, up = (high[1] - low[1]) // part, (high[0] - low[0]) // part
    # All stakes of the line have this one value of across * y - up * x.
    value, rest = divmod(size * (across * low[0] - up * low[1]), bottom)
    if rest != 0:
        return []
    if up == 0:
        first, last = least_from(size * low[1], bottom, low[2]), greatest_to(size * high[1], bottom, high[2])
        many, start = last - first + 1, (first, value)
    else:
        first, last = least_from(size * low[0], bottom, low[2]), greatest_to(size * high[0], bottom, high[2])
        first += (value * inverse_of(across, up) - first) % up
        many, start = (last - first) // up + 1, ((across * first - value) // up, first)
    if many < 1:
        return []
    return [Run(start, (across, up), many)]


def stretch_pieces(fence, size):
    """The pieces of a grown stretch."""
    bottom, corners, sides = fence
    one, two = [(y, x, index in sides) for index, (x, y) in enumerate(corners)]
    return between_runs(bottom, size, one, two)


def side_pieces(fence, side, size):
    """The pieces of a side of a grown fence with both of its ends, whether it is open or closed."""
    bottom, corners, _ = fence
    if len(corners) == 2:
        return point_runs(bottom, size, corners[side])
    x, y = corners[side]
    next_x, next_y = next_corner(corners, side)
    return between_runs(bottom, size, (y, x, False), (next_y, next_x, False))


def fence_pieces(fence, size):
    """The pieces of a grown fence, ascending."""
    bottom, corners, _ = fence
    if len(corners) == 1:
        return point_runs(bottom, size, corners[0])
    if len(corners) == 2:
        return stretch_pieces(fence, size)
    return field_pieces(fence, size)


def total_of(pieces):
    """How many stakes there are in all pieces."""
    return sum([piece.whole_count() for piece in pieces])


def total_to(pieces, row):
    """How many stakes of all pieces have a y of at most a row."""
    return sum([piece.count_to(row) for piece in pieces])


def stake_of(pieces, index):
    """The stake with an index, None if there are not so many."""
    for piece in pieces:
        many = piece.whole_count()
        if index < many:
            return piece.stake_at(index)
        index -= many
    return None


def ends_of(pieces, row):
    """The least x and the greatest x in a row, None if there is no stake; all between them are stakes."""
    for piece in pieces:
        ends = piece.row_ends(row)
        if ends is not None:
            return ends
    return None


def holds_point(pieces, point):
    """Whether a point is one of the stakes."""
    ends = ends_of(pieces, point[1])
    return ends is not None and ends[0] <= point[0] <= ends[1]
