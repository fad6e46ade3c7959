"""Moves: they lead stakes to stakes, and fences to fences with the same counts."""

from growfences.checks import check_fence, check_field, is_corner, is_integer
from growfences.errors import Impossible, InvalidMove
from growfences.fences import lowest_fence
from growfences.plane import convex_hull, turn


def is_move(value):
    """Whether any value is a move."""
    if not isinstance(value, tuple) or len(value) != 6 or not all([is_integer(number) for number in value]):
        return False
    return value[0] * value[3] - value[1] * value[2] in (1, -1)


def check_move(value):
    """Raise InvalidMove unless a value is a move."""
    if not is_move(value):
        raise InvalidMove("a move is a tuple of six integers that leads stakes to stakes, and back")


def led_corner(move, bottom, corner):
    """The corner over a bottom to which a move leads a corner."""
    a, b, c, d, e, f = move
    x, y = corner
    return (a * x + b * y + e * bottom, c * x + d * y + f * bottom)


def side_before(places, side):
    """The number that a side had when each corner had its number in `places`."""
    here, there = places[side], places[(side + 1) % len(places)]
    if there == (here + 1) % len(places):
        return here
    # The move turns the field over, so the side led the other way then.
    return there


def led_fence(fence, move):
    """The fence to which a move leads, even if its corners are out of range."""
    bottom, corners, sides = fence
    spots = [led_corner(move, bottom, corner) for corner in corners]
    ordered = convex_hull(spots)
    places = [spots.index(spot) for spot in ordered]
    return (bottom, ordered, [side for side in range(len(ordered)) if side_before(places, side) in sides])


def moved_fence(fence, move):
    """The fence to which a move leads."""
    check_fence(fence)
    check_move(move)
    led = led_fence(fence, move)
    if not all([is_corner(corner) for corner in led[1]]):
        raise Impossible("the move leads a corner out of its range")
    return led


def joined_move(move, other):
    """The move that leads as one move does and then as another one does."""
    check_move(move)
    check_move(other)
    a, b, c, d, e, f = move
    return (
        other[0] * a + other[1] * c,
        other[0] * b + other[1] * d,
        other[2] * a + other[3] * c,
        other[2] * b + other[3] * d,
    ) + led_corner(other, 1, (e, f))


def inverse_move(move):
    """The move that leads back."""
    check_move(move)
    a, b, c, d, e, f = move
    sign = a * d - b * c
    return (sign * d, -sign * b, -sign * c, sign * a, sign * (b * f - d * e), sign * (c * e - a * f))


def rounds_of(corners):
    """The corners counted from each of them on, both ways round."""
    rounds = []
    for start in range(len(corners)):
        ahead = corners[start:] + corners[:start]
        rounds.append(ahead)
        rounds.append(ahead[:1] + ahead[:0:-1])
    return rounds


def quotients_of(tops, bottom):
    """Integers divided by one that is above 0, None unless all of that are integers."""
    if any([top % bottom != 0 for top in tops]):
        return None
    return [top // bottom for top in tops]


def move_through(bottom, corners, spots):
    """The move that leads the first three corners of a field to the first three of other ones, None if none does."""
    (x, y), one, two = corners[:3]
    (to_x, to_y), to_one, to_two = spots[:3]
    one_x, one_y, two_x, two_y = one[0] - x, one[1] - y, two[0] - x, two[1] - y
    parts = quotients_of([
        (to_one[0] - to_x) * two_y - (to_two[0] - to_x) * one_y,
        (to_two[0] - to_x) * one_x - (to_one[0] - to_x) * two_x,
        (to_one[1] - to_y) * two_y - (to_two[1] - to_y) * one_y,
        (to_two[1] - to_y) * one_x - (to_one[1] - to_y) * two_x,
    ], turn(corners[0], one, two))
    if parts is None:
        return None
    a, b, c, d = parts
    shifts = quotients_of([to_x - a * x - b * y, to_y - c * x - d * y], bottom)
    if shifts is None:
        return None
    move = (a, b, c, d, shifts[0], shifts[1])
    return move if is_move(move) else None


def moves_onto(fence, other):
    """All moves that lead a field onto another one, ascending."""
    # Moves keep the lowest bottom, and over it equal points mean equal tuples.
    lowest, target = lowest_fence(fence), lowest_fence(other)
    moves = [move_through(lowest[0], lowest[1], spots) for spots in rounds_of(target[1])]
    return sorted([move for move in moves if move is not None and led_fence(lowest, move) == target])


def move_between(fence, other):
    """The least move that leads a field onto another one, None if no move does."""
    check_fence(fence)
    check_fence(other)
    check_field(fence)
    check_field(other)
    moves = moves_onto(fence, other)
    return moves[0] if moves else None


def own_moves(fence):
    """All moves that lead a field onto itself, ascending."""
    check_fence(fence)
    check_field(fence)
    return moves_onto(fence, fence)
