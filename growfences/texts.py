"""Texts of fences, rules and moves: words with single spaces between them."""

from math import gcd

from growfences.checks import MOST_ROWS, check_fence, check_rule
from growfences.errors import InvalidSyntax
from growfences.fences import is_fence
from growfences.moves import check_move, is_move

DIGITS = "0123456789"
MOST_DIGITS = 200
MOVE_NUMBERS = 6


def corner_text(corner):
    """A corner as a word."""
    return f"{corner[0]},{corner[1]}"


def fraction_text(fraction):
    """A fraction as a word."""
    top, bottom = fraction
    return str(top) if bottom == 1 else f"{top}/{bottom}"


def text_of(numbers):
    """Integers as words."""
    return " ".join([str(number) for number in numbers])


def format_fence(fence):
    """The text of a fence."""
    check_fence(fence)
    bottom, corners, sides = fence
    text = f"{bottom}: " + " ".join([corner_text(corner) for corner in corners])
    return text if sides == [] else text + " / " + text_of(sides)


def format_rule(rule):
    """The text of a rule."""
    check_rule(rule)
    return "; ".join([" ".join([fraction_text(part) for part in row]) for row in rule])


def format_move(move):
    """The text of a move."""
    check_move(move)
    return text_of(move)


def read_count(word):
    """The number from 0 on that a word is, None if it is none."""
    if not 1 <= len(word) <= MOST_DIGITS or any([sign not in DIGITS for sign in word]):
        return None
    if len(word) > 1 and word[0] == "0":
        return None
    return int(word)


def read_number(word):
    """The number that a word is, None if it is none."""
    if not word.startswith("-"):
        return read_count(word)
    number = read_count(word[1:])
    return None if number is None or number == 0 else -number


def read_fraction(word):
    """The fraction that a word is, None if it is none."""
    left, slash, right = word.partition("/")
    top = read_number(left)
    if top is None:
        return None
    if slash == "":
        return (top, 1)
    bottom = read_count(right)
    if bottom is None or bottom < 2 or gcd(top, bottom) != 1:
        return None
    return (top, bottom)


def read_corner(word):
    """The corner that a word is, None if it is none."""
    left, _, right = word.partition(",")
    x, y = read_number(left), read_number(right)
    return None if x is None or y is None else (x, y)


def read_bottom(word):
    """The bottom that a word is, None if it is none."""
    return read_count(word[:-1]) if word.endswith(":") else None


def words_of(text):
    """The words of a text, one at least."""
    if not isinstance(text, str):
        raise InvalidSyntax(None)
    return text.split(" ")


def found_at(value, word):
    """What was read from the word with a number; InvalidSyntax if that is nothing."""
    if value is None:
        raise InvalidSyntax(word)
    return value


def parse_fence(text):
    """The fence that has a text."""
    words = words_of(text)
    bottom = found_at(read_bottom(words[0]), 0)
    corners, sides, behind = [], [], False
    for number, word in enumerate(words[1:], start=1):
        if behind:
            sides.append(found_at(read_count(word), number))
        elif word == "/" and corners != []:
            behind = True
        else:
            corners.append(found_at(read_corner(word), number))
    fence = (bottom, corners, sides)
    if not is_fence(fence) or (behind and sides == []):
        raise InvalidSyntax(len(words))
    return fence


def parse_rule(text):
    """The rule that has a text."""
    words = words_of(text)
    parts = []
    for number, word in enumerate(words):
        if number % 3 == 0 and number > 0 and not words[number - 1].endswith(";"):
            raise InvalidSyntax(number)
        plain = word.removesuffix(";") if number % 3 == 2 else word
        parts.append(found_at(read_fraction(plain), number))
    if len(parts) % 3 != 0 or len(parts) > 3 * MOST_ROWS or words[-1].endswith(";"):
        raise InvalidSyntax(len(words))
    return [tuple(parts[start:start + 3]) for start in range(0, len(parts), 3)]


def parse_move(text):
    """The move that has a text."""
    words = words_of(text)
    numbers = []
    for number, word in enumerate(words):
        if number == MOVE_NUMBERS:
            raise InvalidSyntax(number)
        numbers.append(found_at(read_number(word), number))
    move = tuple(numbers)
    if not is_move(move):
        raise InvalidSyntax(len(words))
    return move
