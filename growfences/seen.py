"""Unknown fields of which some counts were seen: closed, with three corners in a small grid, over a known bottom."""

from itertools import combinations

from growfences.checks import check_last, check_looks, check_seen_bottom, is_between
from growfences.courses import fence_course, values_to
from growfences.errors import Impossible, InvalidNumber
from growfences.pieces import fence_pieces, total_of
from growfences.plane import turn

GREATEST_TELLING = 12


def fields_over(bottom):
    """All fields that can be the unknown one, ascending."""
    grid = [(x, y) for x in range(3) for y in range(3)]
    return [
        (bottom, [one, two, three], [])
        for one in grid for two in grid for three in grid
        if one < min(two, three) and turn(one, two, three) > 0
    ]


def count_at(field, size):
    """The count of a field at a size."""
    return total_of(fence_pieces(field, size))


def those_with(fields, look):
    """Those of some fields that have the count of a look at its size."""
    size, count = look
    return [field for field in fields if count_at(field, size) == count]


def fits_of(bottom, looks):
    """All fields that fit, ascending."""
    check_seen_bottom(bottom)
    check_looks(looks)
    fields = fields_over(bottom)
    for look in looks:
        fields = those_with(fields, look)
    return fields


def check_fits(fields):
    """Raise Impossible if nothing fits."""
    if fields == []:
        raise Impossible("no field fits")


def fits_count(bottom, looks):
    """How many fields fit."""
    return len(fits_of(bottom, looks))


def nth_fit(bottom, looks, index):
    """The field that fits with an index."""
    fields = fits_of(bottom, looks)
    if not is_between(index, 0, len(fields) - 1):
        raise InvalidNumber("no field that fits has this index")
    return fields[index]


def clash_index(bottom, looks):
    """The index of the first look with which nothing fits any more, None if something fits all."""
    check_seen_bottom(bottom)
    check_looks(looks)
    fields = fields_over(bottom)
    for index, look in enumerate(looks):
        fields = those_with(fields, look)
        if fields == []:
            return index
    return None


def sure_counts(bottom, looks, last):
    """For each size from 1 to a last one the count that all fields that fit have, None where they differ."""
    fields = fits_of(bottom, looks)
    check_last(last)
    check_fits(fields)
    sure = []
    for size in range(1, last + 1):
        counts = [count_at(field, size) for field in fields]
        sure.append(counts[0] if min(counts) == max(counts) else None)
    return sure


def unlike_courses(fields):
    """The courses of the counts of fields, each one once: one for each rule that they have."""
    courses = []
    for field in fields:
        course = fence_course(field)
        if course not in courses:
            courses.append(course)
    return courses


def least_parting(counts):
    """The fewest sizes at which all lists of counts are unlike, of these the least list; None if there are none."""
    for many in range(GREATEST_TELLING + 1):
        for sizes in combinations(range(1, GREATEST_TELLING + 1), many):
            if len({tuple([row[size - 1] for size in sizes]) for row in counts}) == len(counts):
                return list(sizes)
    return None


def telling_sizes(bottom, looks):
    """The fewest sizes from 1 to 12 at which fields that fit and have unlike rules have unlike counts."""
    fields = fits_of(bottom, looks)
    check_fits(fields)
    return least_parting([values_to(course, GREATEST_TELLING) for course in unlike_courses(fields)])
