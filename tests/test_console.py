"""[30] and [31]: the console, each answer against the functions of the other modules."""

import random
import unittest

from far_fences import FAR, RING
from plain import plain_stakes, some_fences
from plain_rules import SMALL, STEEP, TEN
from wrong_values import HUGE, ODD

from growfences.compare import are_alike, first_fewer, parting_size
from growfences.console import Console
from growfences.counts import stake_count
from growfences.errors import FenceError, Impossible, InvalidCommand, InvalidSize
from growfences.fences import shut_fence
from growfences.gaps import last_empty, size_step, stake_sizes
from growfences.hulls import stake_hull
from growfences.rules import counting_rule, part_periods, rule_period
from growfences.sizes import total_count
from growfences.texts import format_fence, format_rule
from growfences.widths import thin_directions

LOW, WHOLE, FIRST = (2, [(0, 0), (2, 0), (0, 1)], []), (1, [(0, 0), (1, 0), (0, 1)], []), (1, [(0, 0)], [])
PLAIN_COMMANDS = (
    "count", "inner", "hull", "rule", "period", "parts", "step", "sizes", "gap", "width", "alike", "parting", "first",
)
FENCE_LIST = SMALL[::9] + STEEP[::4] + [(30, RING, [0, 9]), (1, TEN, list(range(10))), (7, [(-FAR, FAR)], []), LOW, WHOLE]


def fraction(pair):
    return str(pair[0]) if pair[1] == 1 else f"{pair[0]}/{pair[1]}"


def corners_told(corners):
    return " ".join(f"{x},{y}" for x, y in corners)


def expected(word, fence, other, size):
    """The answer to a command of one word, by the functions of the other modules."""
    if word == "count":
        return str(stake_count(fence, size))
    if word == "inner":
        return str(stake_count(shut_fence(fence), size))
    if word == "hull":
        return corners_told(stake_hull(fence, size)) or "none"
    if word == "rule":
        return format_rule(counting_rule(fence))
    if word == "width":
        if len(fence[1]) < 3:
            return "none"
        width, directions = thin_directions(fence)
        return fraction(width) + " " + corners_told(directions)
    plain = {
        "period": lambda: rule_period(fence), "step": lambda: size_step(fence), "gap": lambda: last_empty(fence),
        "parts": lambda: " ".join(map(str, part_periods(fence))), "sizes": lambda: " ".join(map(str, stake_sizes(fence))),
        "alike": lambda: "yes" if are_alike(fence, other) else "no",
        "parting": lambda: parting_size(fence, other), "first": lambda: first_fewer(fence, other),
    }
    answer = plain[word]()
    return "none" if answer is None else str(answer)


class TestCommands(unittest.TestCase):
    def check_all(self, console, fence, other, size):
        """All commands of one word answer as the functions do, and change nothing."""
        for word in PLAIN_COMMANDS:
            try:
                answer = expected(word, fence, other, size)
            except Impossible:
                with self.assertRaises(Impossible) as caught:
                    console.execute(word)
                self.assertIs(caught.exception.__class__, Impossible)
                continue
            self.assertEqual(console.execute(word), answer, (word, fence, other, size))
            self.assertIs(console.execute(command=word).__class__, str)

    def test_at_first(self):
        self.check_all(Console(), FIRST, FIRST, 1)
        answers = [Console().execute(word) for word in PLAIN_COMMANDS]
        self.assertEqual(answers, ["1", "1", "0,0", "0 0 1", "1", "1 1 1", "1", "1", "0", "none", "yes", "none", "none"])

    def test_fences_of_all_kinds(self):
        source = random.Random(151)
        for fence in FENCE_LIST:
            console, size, other = Console(), source.choice((1, 2, 3, 6, 7, 30)), source.choice(FENCE_LIST)
            self.assertEqual(console.execute("fence " + format_fence(fence)), "ok")
            self.check_all(console, fence, FIRST, 1)
            self.assertEqual(console.execute(f"size {size}"), "ok")
            self.check_all(console, fence, FIRST, size)
            self.assertEqual(console.execute("other " + format_fence(other)), "ok")
            self.check_all(console, fence, other, size)
            self.assertEqual(console.execute("fence 1: 0,0"), "ok")
            self.check_all(console, FIRST, other, size)

    def test_one_console_for_all(self):
        console, source, state = Console(), random.Random(152), [FIRST, FIRST, 1]
        for number in range(150):
            kind = source.choice(("fence", "other", "size"))
            if kind == "size":
                state[2] = source.choice((1, 2, 5, 29, 30, 10 ** 9, FAR))
                command = f"size {state[2]}"
            else:
                state[kind == "other"] = source.choice(FENCE_LIST[:40])
                command = kind + " " + format_fence(state[kind == "other"])
            self.assertEqual(console.execute(command), "ok")
            self.check_all(console, *state)

    def test_plain_counts(self):
        for fence in SMALL[::17]:
            console = Console()
            console.execute("fence " + format_fence(fence))
            for size in (1, 2, 4):
                console.execute(f"size {size}")
                self.assertEqual(console.execute("count"), str(len(plain_stakes(fence, size))))
                self.assertEqual(console.execute("inner"), str(len(plain_stakes(shut_fence(fence), size))))

    def test_totals(self):
        for fence in FENCE_LIST[::2]:
            console = Console()
            console.execute("fence " + format_fence(fence))
            console.execute("size 5")
            for last in (1, 2, 7, 60, FAR - 1, FAR):
                self.assertEqual(console.execute(f"total {last}"), str(total_count(fence, 1, last)))
            self.assertEqual(console.execute("total 4"), str(sum(stake_count(fence, size) for size in range(1, 5))))
            self.assertEqual(console.execute("count"), str(stake_count(fence, 5)))

    def test_far_sizes(self):
        console = Console()
        console.execute("fence 2: 0,0 2,0 0,1")
        console.execute(f"size {FAR}")
        self.assertEqual(console.execute("count"), str(10 ** 60 // 4 + FAR + 1))
        self.assertEqual(console.execute("inner"), str(stake_count(shut_fence(LOW), FAR)))
        with self.assertRaises(Impossible):
            console.execute("hull")

    def test_consoles_have_states_of_their_own(self):
        one, two = Console(), Console()
        one.execute("fence 1: 0,0 1,0 0,1")
        one.execute("size 3")
        self.assertEqual((one.execute("count"), two.execute("count")), ("10", "1"))
        two.execute("other 1: 0,0 1,0 0,1")
        self.assertEqual((one.execute("alike"), two.execute("alike"), two.execute("first")), ("no", "no", "1"))

    def test_open_sides_and_other_kinds(self):
        console = Console()
        for text, answers in (
            ("2: 0,0 2,0 0,1 / 0 1 2", ("0", "0", "none", "2", "4 5 6 7", "3", "1/2 0,1")),
            ("3: 1,0 2,0 / 0 1", ("0", "0", "none", "3", "2 5", "3", "none")),
            ("6: 3,2", ("0", "0", "none", "6", "6", "0", "none")),
            ("1: -1,0 0,-1 1,0 0,1", ("5", "1", "-1,0 0,-1 1,0 0,1", "1", "1", "0", "2 0,1 1,-1 1,0 1,1")),
        ):
            self.assertEqual(console.execute("fence " + text), "ok")
            told = tuple(console.execute(word) for word in ("count", "inner", "hull", "period", "sizes", "gap", "width"))
            self.assertEqual(told, answers)


class TestErrors(unittest.TestCase):
    def setUp(self):
        self.console = Console()
        for command in ("fence 2: 0,0 2,0 0,1 / 1", "other 1: 0,0 1,0 0,1", "size 7"):
            self.console.execute(command)

    def state(self):
        return [self.console.execute(word) for word in PLAIN_COMMANDS]

    def check(self, command, error):
        before = self.state()
        for call in (lambda: self.console.execute(command), lambda: self.console.execute(command=command)):
            with self.assertRaises(FenceError) as caught:
                call()
            self.assertIs(caught.exception.__class__, error, command)
            self.assertEqual(vars(caught.exception), {})
        self.assertEqual(self.state(), before)

    def test_values_that_are_no_strings(self):
        for value in ODD:
            self.check(value, InvalidCommand)
        for value in (0, 1, HUGE, ["count"], ("count",), b"count", {"count": 1}, ["size", "1"]):
            self.check(value, InvalidCommand)

    def test_words_that_are_no_commands(self):
        for command in (
            "", " ", "counts", "Count", "COUNT", "coun", "count ", " count", "count 1", "count  ", "count\n", "\ncount", "count count",
            "inner 1", "hull 3", "rule 1", "period 2", "parts 1", "step 1", "sizes 1", "gap 0", "width 1", "alike yes", "parting 1",
            "first 1", "execute", "none", "ok", "fences", "x 1", "1", "~", "rule;", "size", "total", "fence", "other", "undo", "answer",
            "tell_count", "ABOUT_SIZE",
        ):
            self.check(command, InvalidCommand)

    def test_numbers(self):
        for word in ("size", "total"):
            for text in ("", " ", "-1", "-0", "00", "01", "1.0", "+1", "a", "1 ", " 1", "1 2", "1,0", "1/1", "2:", "1;", "9" * 201, "1\n"):
                self.check(f"{word} {text}", InvalidCommand)
            for number in (0, FAR + 1, 10 ** 31, int("9" * 200)):
                self.check(f"{word} {number}", InvalidSize)
        self.assertEqual(self.console.execute(f"size {FAR}"), "ok")
        self.assertEqual(self.console.execute("size 1"), "ok")

    def test_fences(self):
        for word in ("fence", "other"):
            for text in (
                "", " ", "1", "1:", "1: ", " 1: 0,0", "1: 0,0 ", "1:  0,0", "0: 0,0", "31: 0,0", "-1: 0,0", "01: 0,0", "1: 0;0", "1: 0,-0",
                "1: 0,0 0,0", "1: 1,0 0,0", "1: 0,0 0,1 1,0", "1: 0,0 1,0 2,0", "1: 0,0 /", "1: 0,0 / 0", "1: 0,0 1,0 / 2",
                "1: 0,0 1,0 / 1 0", "1: 0,0 1,0 / 0 0", f"1: 0,{FAR + 1}", "1: " + " ".join(f"{x},{x * x}" for x in range(11)),
                "(1, [(0, 0)], [])", "1: 0,0 1,0 / -1", "1: 0,0\n",
            ):
                self.check(f"{word} {text}", InvalidCommand)
        ten = " ".join(f"{x},{x * x}" for x in range(10))
        self.assertEqual(self.console.execute(f"fence 30: {ten} / 0 9"), "ok")
        self.assertEqual(self.console.execute(f"other 1: -{FAR},{FAR}"), "ok")

    def test_too_many_rows(self):
        for text in ("1: 0,0 1,0 0,400", "1: 0,0 0,400", "30: 0,0 1,0 0,12000 / 0"):
            self.console.execute("size 1")
            self.console.execute("fence " + text)
            with self.assertRaises(Impossible):
                self.console.execute("hull")
            before = [self.console.execute(word) for word in PLAIN_COMMANDS if word != "hull"]
            for _ in range(2):
                with self.assertRaises(Impossible) as caught:
                    self.console.execute("hull")
                self.assertIs(caught.exception.__class__, Impossible)
            self.assertEqual([self.console.execute(word) for word in PLAIN_COMMANDS if word != "hull"], before)
        self.console.execute("fence 1: 0,0 1,0 0,399")
        self.assertEqual(self.console.execute("hull"), "0,0 1,0 0,399")

    def test_more_fences(self):
        for fence in some_fences(153, 30, 9, range(1, 31), (1, 2, 3, 6)):
            self.assertEqual(self.console.execute("fence " + format_fence(fence)), "ok")
            self.assertEqual(self.console.execute("count"), str(stake_count(fence, 7)))
            self.check("fence " + format_fence(fence) + " -1", InvalidCommand)
            self.assertEqual(self.console.execute("count"), str(stake_count(fence, 7)))


if __name__ == "__main__":
    unittest.main()
