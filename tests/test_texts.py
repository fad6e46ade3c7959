"""[28] and [29]: texts of fences, rules and moves, written and read back, and the first word that cannot stand."""

import itertools
import math
import random
import re
import unittest

from far_fences import FAR, RING, SHEARS
from plain import some_fences
from plain_rules import SMALL, STEEP, TEN
from wrong_values import FENCES, MOVES, ODD, RULES

from growfences.errors import FenceError, InvalidSyntax
from growfences.fences import is_fence, shut_fence
from growfences.moves import inverse_move, is_move, joined_move
from growfences.rules import counting_rule, rule_count, rule_through
from growfences.texts import format_fence, format_move, format_rule, parse_fence, parse_move, parse_rule

LONGEST = int("9" * 200)
FENCE_LIST = SMALL[::3] + STEEP + [(30, RING, [0, 9]), (1, TEN, list(range(10))), (7, [(-FAR, FAR)], []), (1, [(-1, 0), (0, 0)], [1])]
COUNT = r"(0|[1-9][0-9]{0,199})"
NUMBER = r"(0|-?[1-9][0-9]{0,199})"


def told_fraction(top, bottom):
    return f"{top}" if bottom == 1 else f"{top}/{bottom}"


def plain_fence_text(fence):
    bottom, corners, sides = fence
    text = str(bottom) + ":" + "".join(f" {x},{y}" for x, y in corners)
    return text + " /" + "".join(f" {side}" for side in sides) if sides else text


def plain_rule_text(rule):
    rows = [" ".join(told_fraction(*part) for part in row) for row in rule]
    return "; ".join(rows)


def is_plain_fraction(word):
    """Whether a word is a fraction as it is written."""
    if re.fullmatch(NUMBER, word):
        return True
    if not re.fullmatch(NUMBER + "/" + COUNT, word):
        return False
    top, bottom = map(int, word.split("/"))
    return bottom > 1 and math.gcd(top, bottom) == 1


def fence_word_fits(words, at):
    """Whether a word can stand behind the words ahead of it in the text of a fence."""
    if at == 0:
        return re.fullmatch(COUNT + ":", words[0]) is not None
    if "/" in words[:at]:
        return re.fullmatch(COUNT, words[at]) is not None
    if words[at] == "/":
        return at > 1
    return re.fullmatch(NUMBER + "," + NUMBER, words[at]) is not None


def rule_word_fits(words, at):
    """Whether a word can stand behind the words ahead of it in the text of a rule."""
    word = words[at]
    if at % 3 == 0 and at > 0 and not words[at - 1].endswith(";"):
        return False
    return is_plain_fraction(word[:-1] if at % 3 == 2 and word.endswith(";") else word)


def move_word_fits(words, at):
    return at < 6 and re.fullmatch(NUMBER, words[at]) is not None


def wrong_word(text, fits):
    """The number of the first word that cannot stand, else of all words."""
    words = text.split(" ")
    return next((at for at in range(len(words)) if not fits(words, at)), len(words))


def changed_texts(text, source, many):
    """Texts that are like a text but for some change."""
    signs = "0123456789-/,;: \n~a"
    found = []
    for _ in range(many):
        at = source.randrange(len(text) + 1)
        kind = source.choice(("put", "take", "change", "word", "stop"))
        if kind == "put":
            found.append(text[:at] + source.choice(signs) + text[at:])
        elif kind == "take":
            found.append(text[:at] + text[at + 1:])
        elif kind == "change":
            found.append(text[:at] + source.choice(signs) + text[at + 1:])
        elif kind == "stop":
            found.append(text[:at])
        else:
            words = text.split(" ")
            spot = source.randrange(len(words))
            words.insert(spot, source.choice(words + ["/", "", "0", "-1", "1,1", "1/2", "1;", "00", "-0"]))
            found.append(" ".join(words))
    return found


class TestFormat(unittest.TestCase):
    def test_fences(self):
        for fence in FENCE_LIST:
            self.assertEqual(format_fence(fence), plain_fence_text(fence))
        self.assertEqual(format_fence((30, [(-FAR, -FAR), (FAR, FAR)], [0, 1])), f"30: -{FAR},-{FAR} {FAR},{FAR} / 0 1")
        self.assertEqual(format_fence((1, [(0, 0)], [])), "1: 0,0")

    def test_rules(self):
        for fence in FENCE_LIST:
            rule = counting_rule(fence)
            self.assertEqual(format_rule(rule), plain_rule_text(rule))
        self.assertEqual(format_rule([((0, 1), (0, 1), (0, 1))]), "0 0 0")
        self.assertEqual(format_rule([((-1, 2), (0, 1), (-7, 1)), ((1, 30), (-9, 4), (3, 1))]), "-1/2 0 -7; 1/30 -9/4 3")

    def test_moves(self):
        for move in SHEARS + ((0, -1, 1, 0, -5, 5), (1, LONGEST, 0, 1, -LONGEST, 0)):
            self.assertEqual(format_move(move), " ".join(map(str, move)))

    def test_long_numbers(self):
        move = (1, 0, 0, 1, 0, 0)
        for _ in range(6):
            move = joined_move(move, (10 ** 199 + 1, 10 ** 199, 1, 1, LONGEST, -LONGEST))
        self.assertGreater(len(str(move[0])), 1000)
        self.assertEqual(format_move(move), " ".join(map(str, move)))
        self.assertEqual(format_move(inverse_move(move)).split(" ")[0], str(move[3]))
        rule = rule_through([LONGEST, -LONGEST, 7, 0, 1, LONGEST - 3, 5, 5, 5])
        self.assertGreater(max(len(word) for word in format_rule(rule).split(" ")), 200)
        self.assertEqual(format_rule(rule), plain_rule_text(rule))
        top = 10 ** 3999 + 1
        self.assertEqual(format_rule([((top, 1), (-1, top), (0, 1))]), f"{top} -1/{top} 0")
        self.assertEqual(format_move((1, top, 0, 1, -top, 0)), f"1 {top} 0 1 -{top} 0")

    def test_wrong_values(self):
        for function, wrong in ((format_fence, FENCES), (format_rule, RULES), (format_move, MOVES)):
            for value, error, fields in wrong:
                with self.assertRaises(FenceError) as caught:
                    function(value)
                self.assertIs(caught.exception.__class__, error)
                self.assertEqual(vars(caught.exception), fields)


class TestReadBack(unittest.TestCase):
    def test_fences(self):
        for fence in FENCE_LIST + [shut_fence(fence) for fence in FENCE_LIST]:
            text = format_fence(fence)
            self.assertEqual(parse_fence(text), fence)
            self.assertEqual(format_fence(parse_fence(text)), text)
            self.assertIs(is_fence(parse_fence(text)), True)

    def test_rules(self):
        for fence in FENCE_LIST:
            rule = counting_rule(fence)
            self.assertEqual(parse_rule(format_rule(rule)), rule)
            self.assertEqual([part.__class__ for part in parse_rule(format_rule(rule))], [tuple] * len(rule))
            self.assertEqual(rule_count(parse_rule(format_rule(rule)), FAR), rule_count(rule, FAR))
        long = [((LONGEST, 1), (-LONGEST, LONGEST - 1), (1, LONGEST))] * 6
        self.assertEqual(parse_rule(format_rule(long)), long)
        for many in (1, 2, 29, 30):
            rule = [((1, 2), (-3, 2), (number, 1)) for number in range(many)]
            self.assertEqual(parse_rule(format_rule(rule)), rule)

    def test_moves(self):
        source = random.Random(141)
        moves = [(1, LONGEST, 0, 1, -LONGEST, LONGEST), (0, 1, 1, 0, -1, 0), *SHEARS]
        for _ in range(50):
            move = (1, 0, 0, 1, 0, 0)
            for _ in range(5):
                move = joined_move(move, source.choice(SHEARS[:4] + ((1, 1, 0, 1, 2, 3), (0, -1, 1, 0, 0, 9))))
            moves.append(move)
        for move in moves:
            self.assertEqual(parse_move(format_move(move)), move)
            self.assertEqual(format_move(parse_move(format_move(move))), format_move(move))

    def test_new_answers(self):
        text = "2: 0,0 2,0 0,1 / 0 2"
        one, two = parse_fence(text), parse_fence(text)
        for spot in (1, 2):
            self.assertIsNot(one[spot], two[spot])
            one[spot].clear()
        self.assertEqual(parse_fence(text), two)
        rule = parse_rule("1 2 3; 4 5 6")
        rule.clear()
        self.assertEqual(parse_rule("1 2 3; 4 5 6"), [((1, 1), (2, 1), (3, 1)), ((4, 1), (5, 1), (6, 1))])


class TestWrongTexts(unittest.TestCase):
    def check(self, function, text, word):
        for call in (lambda: function(text), lambda: function(text=text)):
            with self.assertRaises(InvalidSyntax) as caught:
                call()
            self.assertIs(caught.exception.__class__, InvalidSyntax)
            self.assertEqual(vars(caught.exception), {"word": word}, (function, text))

    def test_no_strings(self):
        for function in (parse_fence, parse_rule, parse_move):
            for value in [value for value in ODD if not isinstance(value, str)] + [0, 1, ["1:", "0,0"], ("1", "1", "1"), b"1: 0,0"]:
                self.check(function, value, None)

    def test_empty_texts_and_words(self):
        for function, text in ((parse_fence, "1: 0,0 1,0 / 1"), (parse_rule, "1 1 1; 2 2 2"), (parse_move, "1 0 0 1 0 0")):
            self.check(function, "", 0)
            self.check(function, " ", 0)
            words = text.split(" ")
            for at in range(len(words) + 1):
                there = " ".join(words[:at] + [""] + words[at:])
                # Behind the last row of a rule, and behind six numbers, no word can stand; an empty one never can.
                self.check(function, there, at)
            self.check(function, "\n" + text, 0)
            self.check(function, text + "\n", len(words) - 1)
            self.check(function, text.replace(" ", "\n"), 0)

    def test_numbers(self):
        longest, longer = "9" * 200, "1" + "0" * 200
        for word in ("-0", "00", "01", "-01", "--1", "+1", "1.0", "1e3", "a", "0x1", "1_0", "-", "", longer, "-" + longer, "1,0", "1;"):
            self.check(parse_move, f"{word} 0 0 1 0 0", 0)
            self.check(parse_move, f"1 0 0 1 0 {word}", 5)
            self.check(parse_move, f"1 0 0 {word} 0 {word}", 3)
            self.check(parse_rule, f"1 {word} 1", 1)
            self.check(parse_rule, f"{word}/7 1 1", 0)
            self.check(parse_rule, f"1 1 1/{word}", 2)
            self.check(parse_fence, f"{word}: 0,0", 0)
            self.check(parse_fence, f"1: {word},0", 1)
            self.check(parse_fence, f"1: 0,{word}", 1)
            self.check(parse_fence, f"1: 0,0 1,0 / {word}", 4)
        self.assertEqual(parse_move(f"1 {longest} 0 1 -{longest} 0"), (1, LONGEST, 0, 1, -LONGEST, 0))
        self.assertEqual(parse_rule(f"{longest} -{longest} 1/{longest}"), [((LONGEST, 1), (-LONGEST, 1), (1, LONGEST))])
        self.check(parse_fence, f"{longest}: 0,0", 2)
        self.check(parse_fence, f"1: {longest},-{longest}", 2)
        self.check(parse_fence, f"1: 0,0 1,0 / {longest}", 5)

    def test_fractions(self):
        for word in ("1/1", "2/4", "0/1", "0/2", "3/3", "-2/4", "1/0", "1/-2", "-1/-2", "1/02", "1/", "/2", "1//2", "1/2/3", "-0/2", "-/2"):
            for at in range(6):
                words = ["1", "-1/2", "0;", "5", "7/30", "1"]
                words[at] = word + (";" if at == 2 else "")
                self.check(parse_rule, " ".join(words), at)
        self.assertEqual(parse_rule("-1/2 0 30/7"), [((-1, 2), (0, 1), (30, 7))])

    def test_rules_of_wrong_lengths(self):
        for text, word in (
            ("1", 1), ("1 1", 2), ("1 1 1;", 3), ("1 1 1 1", 3), ("1 1 1; 1", 4), ("1 1 1; 1 1", 5), ("1 1 1; 1 1 1;", 6),
            ("1 1 1; 1 1 1 1", 6), ("1; 1 1", 0), ("1 1; 1", 1), ("1 1 1;;", 2), (";", 0), ("1 1 ;", 2), ("1 1 1 ;", 3), ("1 1 1 a", 3),
            ("1 1 1 1; a", 3), ("a 1 1 1", 0), ("1 1 1;1 1 1", 2), ("1 1 1, 1 1 1", 2),
        ):
            self.check(parse_rule, text, word)
        row = ["1/2", "-3", "0;"]
        for many in (31, 32, 200):
            words = row * many
            words[-1] = "0"
            self.check(parse_rule, " ".join(words), 3 * many)
            self.check(parse_rule, " ".join(row * many), 3 * many)
            self.check(parse_rule, " ".join(words + ["0"]), 3 * many)
            words[3 * many - 2] = "6/4"
            self.check(parse_rule, " ".join(words), 3 * many - 2)
        self.assertEqual(len(parse_rule(" ".join(row * 29 + ["1", "2", "3"]))), 30)
        self.check(parse_rule, " ".join(row * 30), 90)

    def test_moves_of_wrong_lengths(self):
        for text, word in (
            ("1", 1), ("1 0 0 1 0", 5), ("1 0 0 1 0 0 0", 6), ("1 0 0 1 0 0 a", 6), ("1 0 0 1 0 0 a b", 6), ("1 0 0 a 0 0 0", 3),
            ("2 0 0 1 0 0", 6), ("0 0 0 0 0 0", 6), ("1 1 1 1 0 0", 6), ("2 0 0 1 0 0 0", 6), ("1 0 0 1 0 1/2", 5), ("1, 0 0 1 0 0", 0),
        ):
            self.check(parse_move, text, word)

    def test_fences_by_their_signs(self):
        for text, word in (
            ("1", 0), ("1:", 1), ("-1: 0,0", 0), ("0: 0,0", 2), ("31: 0,0", 2), ("1:0,0", 0), ("1 : 0,0", 0), (":", 0), ("1:: 0,0", 0),
            ("1: /", 1), ("1: / 0", 1), ("1: 0,0 /", 3), ("1: 0,0 / 0", 4), ("1: 0,0 1,0 /", 4), ("1: 0,0 1,0 / 2", 5),
            ("1: 0,0 1,0 / 1 0", 6), ("1: 0,0 1,0 / 0 0", 6), ("1: 0,0 1,0 / -1", 4), ("1: 0,0 1,0 / /", 4), ("1: 0,0 1,0 / 0 /", 5),
            ("1: 0,0 1,0 / 1,0", 4), ("1: 0,0 1,0 / 0 1 2", 7), ("1: 1,0 0,0", 3), ("1: 0,0 0,0", 3), ("1: 0,0 0,1 1,0", 4),
            ("1: 0,0 1,0 2,0", 4), ("1: 0, 0", 1), ("1: 0;0", 1), ("1: (0,0)", 1), ("1: 0,0,0", 1), ("1: 0,0 1", 2), ("1: 0,0/ 0", 1),
            ("1: 0,0 1,0 /0", 3), ("1: 0,0 1,0/ 0", 2), ("1: 0,0 1: 1,0", 2), ("a: 0;0 b", 0), ("1: 0,0 a b", 2), ("1: 1/2,0", 1),
        ):
            self.check(parse_fence, text, word)
        self.check(parse_fence, f"1: 0,{FAR + 1}", 2)
        self.assertEqual(parse_fence(f"1: 0,{FAR}"), (1, [(0, FAR)], []))
        eleven = " ".join(f"{x},{x * x}" for x in range(11))
        self.check(parse_fence, "1: " + eleven, 12)
        self.check(parse_fence, "1: " + eleven + " / 0", 14)
        self.check(parse_fence, "1: " + eleven + " 0,0; 1", 12)
        self.check(parse_fence, "1: " + "0,0 " * 2000 + "0,0", 2002)
        self.check(parse_fence, "1: 0,0 1,0 / " + "0 " * 2000 + "-1", 2004)

    def test_texts_that_stop_too_early(self):
        for text in ("1: 0,0 1,0 0,1 / 0 2", "30: -1,-1 1,0"):
            words = text.split(" ")
            for many in range(1, len(words)):
                shorter = " ".join(words[:many])
                fits = many in (2, 3, 4, 6) if len(words) == 7 else many == 2
                if fits:
                    self.assertEqual(format_fence(parse_fence(shorter)), shorter)
                else:
                    self.check(parse_fence, shorter, many)

    def check_text(self, function, form, text, fits):
        try:
            value = function(text)
        except InvalidSyntax as error:
            self.assertEqual(error.word, wrong_word(text, fits), (function, text))
            return False
        self.assertEqual(form(value), text)
        self.assertEqual(wrong_word(text, fits), len(text.split(" ")))
        return True

    def test_changed_texts(self):
        source = random.Random(142)
        rules = [counting_rule(fence) for fence in FENCE_LIST[::4]]
        cases = (
            (parse_fence, format_fence, [format_fence(fence) for fence in FENCE_LIST[::3]], fence_word_fits),
            (parse_rule, format_rule, [format_rule(rule) for rule in rules], rule_word_fits),
            (parse_move, format_move, [format_move(move) for move in SHEARS + ((1, 0, 0, 1, 0, 0), (0, -1, 1, 0, 3, 10))], move_word_fits),
        )
        for function, form, texts, fits in cases:
            told = [
                self.check_text(function, form, changed, fits) for text in texts for changed in changed_texts(text, source, 120)
            ]
            self.assertGreater(told.count(True), 20, function)
            self.assertGreater(told.count(False), 200, function)

    def test_all_short_texts(self):
        words = ("1", "0", "-1", "1:", "0,0", "1,0", "/", "", "1/2", "1;", "2/4", "-0")
        for many in (1, 2, 3, 4):
            for chosen in itertools.product(words, repeat=many):
                text = " ".join(chosen)
                self.check_text(parse_fence, format_fence, text, fence_word_fits)
                self.check_text(parse_rule, format_rule, text, rule_word_fits)
                self.check_text(parse_move, format_move, text, move_word_fits)

    def test_texts_are_of_values(self):
        for fence in some_fences(143, 60, 9, range(1, 31), (1, 2, 3, 5)):
            self.assertEqual(parse_fence(plain_fence_text(fence)), fence)
        for move in itertools.product((-1, 0, 1, 2), repeat=4):
            text = " ".join(map(str, move + (3, -4)))
            if is_move(move + (3, -4)):
                self.assertEqual(parse_move(text), move + (3, -4))
            else:
                self.check(parse_move, text, 6)


if __name__ == "__main__":
    unittest.main()
