"""A console: commands in words about two fences and a size, and answers in words."""

from growfences.checks import check_size
from growfences.compare import are_alike, first_fewer, parting_size
from growfences.counts import stake_count
from growfences.errors import InvalidCommand, InvalidSyntax
from growfences.fences import fence_kind, shut_fence
from growfences.gaps import last_empty, size_step, stake_sizes
from growfences.hulls import stake_hull
from growfences.rules import counting_rule, part_periods, rule_period
from growfences.sizes import total_count
from growfences.texts import corner_text, format_rule, fraction_text, parse_fence, read_count, text_of
from growfences.widths import thin_directions


def or_none(words):
    """Words with spaces between them, `none` if there are none."""
    return " ".join(words) if words else "none"


def size_or_none(size):
    """A size in digits, `none` for None."""
    return "none" if size is None else str(size)


def tell_count(fence, size):
    """The count at the size."""
    return str(stake_count(fence, size))


def tell_inner(fence, size):
    """The count at the size with all sides open."""
    return str(stake_count(shut_fence(fence), size))


def tell_hull(fence, size):
    """The corners of the hull of all stakes at the size."""
    return or_none([corner_text(corner) for corner in stake_hull(fence, size)])


def tell_rule(fence):
    """The counting rule."""
    return format_rule(counting_rule(fence))


def tell_period(fence):
    """The period of the rule."""
    return str(rule_period(fence))


def tell_parts(fence):
    """The periods of the parts of the rule."""
    return text_of(part_periods(fence))


def tell_step(fence):
    """The step of the sizes with a stake."""
    return str(size_step(fence))


def tell_sizes(fence):
    """The sizes with a stake that are no sum of two such sizes."""
    return text_of(stake_sizes(fence))


def tell_gap(fence):
    """The last multiple of the step without a stake."""
    return str(last_empty(fence))


def tell_width(fence):
    """The least width and the directions that have it."""
    if fence_kind(fence) != "field":
        return "none"
    width, directions = thin_directions(fence)
    return " ".join([fraction_text(width)] + [corner_text(direction) for direction in directions])


def tell_alike(fence, other):
    """Whether both fences have equal counts at every size."""
    return "yes" if are_alike(fence, other) else "no"


def tell_parting(fence, other):
    """The least size at which the counts are not equal."""
    return size_or_none(parting_size(fence, other))


def tell_first(fence, other):
    """The least size at which the count of the first fence is lower."""
    return size_or_none(first_fewer(fence, other))


ABOUT_SIZE = {"count": tell_count, "inner": tell_inner, "hull": tell_hull}
ABOUT_FENCE = {
    "rule": tell_rule, "period": tell_period, "parts": tell_parts, "step": tell_step, "sizes": tell_sizes,
    "gap": tell_gap, "width": tell_width,
}
ABOUT_BOTH = {"alike": tell_alike, "parting": tell_parting, "first": tell_first}


def fence_told(text):
    """The fence of a command."""
    try:
        return parse_fence(text)
    except InvalidSyntax:
        raise InvalidCommand("the command needs the text of a fence") from None


def number_told(text):
    """The number of a command."""
    number = read_count(text)
    if number is None:
        raise InvalidCommand("the command needs a number from 0 on")
    return number


def size_told(text):
    """The size of a command."""
    size = number_told(text)
    check_size(size)
    return size


class Console:
    """Two fences and a size, which commands set and ask about."""

    def __init__(self):
        self._fence = (1, [(0, 0)], [])
        self._other = (1, [(0, 0)], [])
        self._size = 1

    def _answer(self, word):
        """The answer to a command of one word."""
        if word in ABOUT_SIZE:
            tell_size = ABOUT_SIZE[word]
            return tell_size(self._fence, self._size)
        if word in ABOUT_FENCE:
            tell_fence = ABOUT_FENCE[word]
            return tell_fence(self._fence)
        if word in ABOUT_BOTH:
            tell_both = ABOUT_BOTH[word]
            return tell_both(self._fence, self._other)
        raise InvalidCommand("there is no such command")

    def execute(self, command):
        """Carry out a command and tell its answer."""
        if not isinstance(command, str):
            raise InvalidCommand("a command is a string")
        word, space, rest = command.partition(" ")
        if space == "":
            return self._answer(word)
        if word == "total":
            return str(total_count(self._fence, 1, number_told(rest)))
        if word == "fence":
            self._fence = fence_told(rest)
        elif word == "other":
            self._other = fence_told(rest)
        elif word == "size":
            self._size = size_told(rest)
        else:
            raise InvalidCommand("there is no such command")
        return "ok"
