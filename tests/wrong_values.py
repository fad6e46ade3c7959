"""Wrong values for each argument, with the error that tells of them and its field."""

from fractions import Fraction

from growfences import errors

FAR = 10 ** 30
FIELD = (2, [(0, 0), (2, 0), (0, 1)], [])
HUGE = 10 ** 5000

# Values of other kinds, which are wrong at each argument.
ODD = [
    None, True, False, 1.0, 0.5, float("nan"), float("inf"), Fraction(1), "", "1", "fence", b"1", {}, {1: 2}, {0}, object(),
    int, len, [[]], ((),), [None], (None,), 1j, range(3), frozenset(), NotImplemented,
]
INTEGERS = [0, 1, -1, HUGE, -HUGE]

NO_TUPLES_OF_THREE = [[], (), [2, FIELD[1], []], FIELD[:2], FIELD + ([],), (1, 2), "abc", {2: 1, 3: 2, 4: 5}, *INTEGERS]
WRONG_BOTTOMS = [0, 31, -1, HUGE, -HUGE, [1], (1,), [], ()]
SQUARE = [(0, 0), (1, 0), (1, 1), (0, 1)]
WRONG_CORNERS = [
    [], (), tuple(SQUARE), [[0, 0], [1, 0]], [(0, 0), (0, 0)], [(1, 0), (0, 0)], SQUARE[::-1], SQUARE[1:] + SQUARE[:1],
    SQUARE[:2] + SQUARE[3:] + SQUARE[2:3], [(0, 0), (1, 0), (2, 0), (0, 1)], [(0, 0), (2, 0), (1, 0)], [(0,)],
    [(0, 0, 0)], [(True, 0)], [(0, False)], [(0.0, 0)], [("0", 0)], [(FAR + 1, 0)], [(0, -FAR - 1)], [(HUGE, HUGE)],
    [(0, 0), (2, 0), (1, 1), (2, 2), (0, 2)], [(x, x * x) for x in range(11)], [(0, 0)] * 11, 1, HUGE, "0,0",
]
WRONG_SIDES = [(), (0,), [3], [-1], [0, 0], [1, 0], [0, 1, 2, 3], [True], [False], [0.0], ["0"], [HUGE], [-HUGE], 0, HUGE]


def wrong_fences():
    """Pairs of a value and the error for it."""
    pairs = [(value, errors.InvalidFence, {"part": None}) for value in ODD + NO_TUPLES_OF_THREE]
    for parts, field, spot in ((WRONG_BOTTOMS, "bottom", 0), (WRONG_CORNERS, "corners", 1), (WRONG_SIDES, "sides", 2)):
        for value in ODD + parts:
            fence = FIELD[:spot] + (value,) + FIELD[spot + 1:]
            pairs.append((fence, errors.InvalidFence, {"part": field}))
    # Several parts at once: the first one is told.
    pairs.append(((0, [], [9]), errors.InvalidFence, {"part": "bottom"}))
    pairs.append(((True, SQUARE, []), errors.InvalidFence, {"part": "bottom"}))
    pairs.append(((1, [], [9]), errors.InvalidFence, {"part": "corners"}))
    pairs.append(((1, [(0, 0)], [0]), errors.InvalidFence, {"part": "sides"}))
    pairs.append(((1, [(0, 0), (1, 0)], [0, 1, 2]), errors.InvalidFence, {"part": "sides"}))
    pairs.append(([0, [], [9]], errors.InvalidFence, {"part": None}))
    return pairs


def plain_errors(values, error):
    return [(value, error, {}) for value in values]


def wrong_points():
    """Values that are no list of points, with the index that is told."""
    pairs = [(value, None) for value in ODD if value not in ([[]], [None])]
    pairs += [([[]], 0), ([None], 0), ([], None), ((), None), (((0, 0),), None), ([(0, 0)] * 21, None), ([None] * 21, None)]
    pairs += [(0, None), (HUGE, None), ({(0, 0): 1}, None), ({(0, 0)}, None)]
    items = [*ODD, 1, HUGE, (0,), (0, 0, 0), [0, 0], (True, 0), (0, False), (0.0, 0), ("0", 0), (0, FAR + 1), (-FAR - 1, 0)]
    for item in items:
        pairs += [([item], 0), ([(0, 0), item], 1), ([(0, 0)] * 19 + [item], 19), ([(0, 0), item, item, (1, 1)], 1)]
    return [(value, errors.InvalidPoints, {"index": index}) for value, index in pairs]


def wrong_items(wrong, right, longest, error):
    """Lists with wrong items among right ones, with the index of the first wrong one."""
    pairs = []
    for item in wrong:
        for at in (0, 1, longest - 1):
            pairs.append(([right] * at + [item] + [right] * (longest - 1 - at), at))
        pairs.append(([right, item, right, item, right, None], 1))
        pairs.append(([item, item, item], 0))
    return [(value, error, {"index": index}) for value, index in pairs]


def wrong_rules():
    """Values that are no rule, with the index that is told."""
    half, one = (1, 2), (1, 1)
    right = (half, one, (-7, 3))
    wholes = [value for value in ODD if value not in ([[]], [None])]
    wholes += [[], (), (right,), (right, right), right, [right] * 31, [None] * 31, 0, 1, HUGE, {0: right}, {right}, "1 1 1"]
    fractions = [
        *ODD, 1, 0, HUGE, [1, 2], (), [], (1,), (1, 2, 3), (2, 4), (2, 2), (0, 2), (0, 0), (0, -1), (1, 0), (1, -2), (-1, -2), (-2, 2),
        (2, -4), (True, 1), (1, True), (True, True), (False, 1), (1.0, 1), (1, 1.0), ("1", 1), (None, 1), (HUGE, HUGE), (HUGE, 2),
        (HUGE, -1), (HUGE, -HUGE), ((1, 2), 1), "12", "1/2",
    ]
    rows = [*ODD, 1, HUGE, (), [], list(right), right[:2], right[:1], right + (one,), (half, half), "111", {0: half, 1: one, 2: one}]
    for spot in range(3):
        rows += [right[:spot] + (value,) + right[spot + 1:] for value in fractions]
    return [(value, errors.InvalidRule, {"index": None}) for value in wholes] + wrong_items(rows, right, 30, errors.InvalidRule)


def wrong_counts():
    """Values that are no list of counts, with the index that is told."""
    wholes = [*ODD, [], (), (1, 2, 3), 0, 1, HUGE, {0, 1, 2}, {1: 1, 2: 2, 3: 3}, "123", range(3)]
    wholes += [[1] * many for many in (1, 2, 4, 5, 88, 89, 91, 92, 93, 96, 300)] + [[None] * many for many in (2, 4, 91, 93)]
    pairs = [(value, errors.InvalidCounts, {"index": None}) for value in wholes]
    items = [*ODD, (), [], [1], (1,), (1, 1), "1"]
    return pairs + wrong_items(items, 5, 90, errors.InvalidCounts)


def wrong_spots(right, numbers):
    """Tuples like a right one, with one of its numbers replaced by a value of another kind, and in other wholes."""
    values = [right[:-1], right + (1,), list(right), (), [], (right,), [right], dict(enumerate(right)), right * 2, str(right)]
    for spot in range(len(right)):
        values += [right[:spot] + (part,) + right[spot + 1:] for part in numbers]
    return values


def wrong_moves():
    """Values that are no move."""
    parts = [value for value in ODD if not isinstance(value, (list, set, dict))] + [[1], (1,), "0"]
    values = [*ODD, *INTEGERS, *wrong_spots((1, 0, 0, 1, 3, -2), parts), *wrong_spots((0, -1, 1, 7, 0, 0), parts[:6])]
    values += [(0, 0, 0, 0, 0, 0), (2, 0, 0, 1, 0, 0), (1, 1, 1, 1, 5, 5), (1, 0, 0, 2, 0, 0), (2, 1, 1, 2, 0, 0), (3, 1, 1, 1, 0, 0)]
    values += [(HUGE, 0, 0, 1, 0, 0), (HUGE, HUGE, HUGE, HUGE, 0, 0), (1, 0, 0, 0, 1, 1), (0, 2, 1, 0, 0, 0), "100100", (1, 0), range(6)]
    return plain_errors(values, errors.InvalidMove)


def wrong_lines():
    """Values that are no line."""
    parts = [value for value in ODD if not isinstance(value, (list, set, dict))] + [[1], (1,), "0"]
    values = [*ODD, *INTEGERS, *wrong_spots((2, -1, 1), parts), (0, 0, 0), (0, 0, 1), (0, 0, -HUGE), (1, 0), (0, 1), "101"]
    return plain_errors(values, errors.InvalidLine)


def wrong_looks():
    """Values that are no looks, with the index that is told."""
    wholes = [value for value in ODD if value not in ([[]], [None])]
    wholes += [(), ((1, 6),), (1, 6), {(1, 6)}, {1: 6}, 0, HUGE, [(1, 6)] * 13, [None] * 13, "16"]
    pairs = [(value, errors.InvalidLooks, {"index": None}) for value in wholes]
    items = [
        *ODD, 1, HUGE, [1, 6], (), (1,), (1, 6, 0), (0, 6), (-1, 6), (61, 6), (HUGE, 6), (1, -1), (60, -HUGE), (True, 6), (1, True),
        (1, False), (1.0, 6), (1, 6.0), ("1", 6), (1, "6"), (None, 6), (1, None), ((1, 6), 6), "16", {1: 6, 2: 15},
    ]
    return pairs + wrong_items(items, (1, 6), 12, errors.InvalidLooks)


SIZES = plain_errors([*ODD, 0, -1, FAR + 1, HUGE, -HUGE, [1], (1,), [], ()], errors.InvalidSize)
SIDES = plain_errors([*ODD, -1, 3, HUGE, -HUGE, [0], (0,), [], ()], errors.InvalidSide)
ROWS = plain_errors([*ODD, [1], (1,), [], ()], errors.InvalidNumber)
NO_POINTS = [
    *ODD, *INTEGERS, [0, 0], (0,), (0, 0, 0), (), [], (True, 0), (0, False), (0.0, 0), (0, 1.0), ("0", 0), (None, 0), (0, None),
    ((0, 0), 0), "00", {0: 0, 1: 1},
]
POINTS = plain_errors(NO_POINTS, errors.InvalidPoint)
STAKES = plain_errors([*NO_POINTS, (-1, 0), (0, 2), (2, 1), (HUGE, 0), (0, -HUGE)], errors.InvalidPoint)
INDEXES = plain_errors([*ODD, -1, 6, HUGE, -HUGE, [0], (0,), [], ()], errors.InvalidNumber)
FENCES = wrong_fences()
BOTTOMS = [(value, errors.InvalidFence, {"part": "bottom"}) for value in ODD + WRONG_BOTTOMS]
NUMBERS = plain_errors([*ODD, -1, -2, -HUGE, [1], (1,), [], (), [0], "0"], errors.InvalidNumber)
RULE_SIZES = plain_errors([*ODD, [1], (1,), [], (), "0"], errors.InvalidSize)
RULES = wrong_rules()
COUNTS = wrong_counts()
OPEN_FENCES = [
    (2, [(0, 0), (2, 0), (0, 1)], [0]), (2, [(0, 0), (2, 0), (0, 1)], [2]), (2, [(0, 0), (2, 0), (0, 1)], [0, 1, 2]),
    (30, [(0, 0), (FAR, 1)], [0]), (1, [(0, 0), (1, 0)], [1]), (1, [(0, 0), (1, 0)], [0, 1]), (4, SQUARE, [1, 2]),
]
MOVES = wrong_moves()
DIRECTIONS = plain_errors([*NO_POINTS, (0, 0), ((1, 0), (0, 1)), (1, 0, 0), [1, 0], {(1, 0)}], errors.InvalidDirection)
LINES = wrong_lines()
SEEN_BOTTOMS = plain_errors([*ODD, 0, 13, -1, 30, HUGE, -HUGE, [1], (1,), [], ()], errors.InvalidNumber)
LOOKS = wrong_looks()
FITS = plain_errors([*ODD, -1, 4, 5, HUGE, -HUGE, [0], (0,), [], ()], errors.InvalidNumber)
LASTS = plain_errors([*ODD, 0, 61, -1, HUGE, -HUGE, [1], (1,), [], ()], errors.InvalidNumber)
TEXTS = [
    (value, errors.InvalidSyntax, {"word": None})
    for value in [*ODD, *INTEGERS, [], (), ["1"], ("1", "0"), b"1: 0,0"] if not isinstance(value, str)
]
CLOSED_FENCES = FENCES + [(value, errors.InvalidFence, {"part": "sides"}) for value in OPEN_FENCES]
