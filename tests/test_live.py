"""[25] to [27]: a live farm, against a list of its calls that is gone through from the start."""

import copy
import random
import unittest

from far_fences import FAR, RING
from plain import led, plain_stakes, some_fences
from plain_rules import TEN
from test_keeping import lists_in
from wrong_values import FENCES, HUGE, MOVES, ODD, SIZES

from growfences import errors
from growfences.counts import stake_count
from growfences.live import LiveFarm

LOW = (2, [(0, 0), (2, 0), (0, 1)], [])
WHOLE = (1, [(0, 0), (1, 0), (0, 1)], [])
POINT = (6, [(3, 2)], [])
STRETCH = (2, [(0, 1), (2, 1)], [1])
WRONG_NAMES = [
    *ODD, "A", "aB", "a1", "a b", " a", "a ", "a\n", "-", "abcdefghi", "a" * 100, "a" * 10000, b"a", ["a"], ("a",), 0, HUGE, "z{", "`a",
]
WRONG_NAMES = [value for value in WRONG_NAMES if value != "fence"]
MOVE_LIST = [(0, 1, 1, 0, 3, 0), (1, 0, 0, 1, -2, 5), (2, 1, 1, 1, 0, 0), (-1, 0, 0, 1, 0, 0), (1, 7, 0, 1, 0, 10 ** 20)]


def gone_through(log):
    """The fences by name and the size behind the calls of a log, from the start."""
    fences, size = {}, 1
    for call in log:
        if call[0] == "put":
            fences[call[1]] = call[2]
        elif call[0] == "take":
            del fences[call[1]]
        elif call[0] == "size":
            size = call[1]
        else:
            fences[call[1]] = led(fences[call[1]], call[2])
    return fences, size


def told(farm):
    """All that a farm tells."""
    names = farm.names
    return (
        farm.size, names, farm.total, farm.log, len(farm), [farm.fence_named(name) for name in names],
        [farm.count_named(name) for name in names],
    )


def some_call(source, farm, sizes=(1, 2, 3, 4, 7)):
    """A changing call that a farm takes, as the log tells it."""
    names = farm.names
    kind = source.choice(("put", "put", "take", "size", "move", "move"))
    if kind == "put" and len(names) < 20:
        new = [name for name in ("a", "b", "c", "dd", "zz", "abcdefgh", "zzzzzzzz", *map("x".__mul__, range(1, 9))) if name not in names]
        if new:
            return ("put", source.choice(new), source.choice(SOME))
    if kind == "take" and names:
        return ("take", source.choice(names))
    if kind == "move" and names:
        return ("move", source.choice(names), source.choice(MOVE_LIST[:4]))
    return ("size", source.choice(sizes))


def carry_out(farm, call):
    """Make a call of a log."""
    if call[0] == "put":
        return farm.put_fence(call[1], copy.deepcopy(call[2]))
    if call[0] == "take":
        return farm.take_fence(call[1])
    if call[0] == "size":
        return farm.set_size(call[1])
    return farm.move_fence(call[1], call[2])


SOME = some_fences(131, 30, 3, (1, 2, 3, 5), (1, 2, 3, 3, 4)) + [LOW, WHOLE, POINT, STRETCH]


class TestCalls(unittest.TestCase):
    def check_farm(self, farm, log, counted):
        fences, size = gone_through(log)
        names = sorted(fences)
        self.assertEqual((farm.size, farm.names, farm.log, len(farm)), (size, names, log, len(names)))
        self.assertEqual([farm.fence_named(name) for name in names], [fences[name] for name in names])
        counts = [counted(fences[name], size) for name in names]
        self.assertEqual([farm.count_named(name) for name in names], counts)
        self.assertEqual(farm.total, sum(counts))

    def test_against_a_list_of_calls(self):
        for seed in range(12):
            source, farm, log = random.Random(seed), LiveFarm(), []
            for number in range(60):
                if log and source.random() < 0.25:
                    self.assertIs(farm.undo(), None)
                    log.pop()
                else:
                    call = some_call(source, farm)
                    self.assertIs(carry_out(farm, call), None)
                    log.append(call)
                self.check_farm(farm, log, stake_count if number % 6 else lambda fence, size: len(plain_stakes(fence, size)))

    def test_200_calls_all_taken_back(self):
        for seed in (1, 2):
            source, farm, seen = random.Random(seed), LiveFarm(), []
            for _ in range(200):
                seen.append(told(farm))
                carry_out(farm, some_call(source, farm, (1, 5, FAR, FAR - 1)))
            self.assertEqual(len(farm.log), 200)
            fork = farm.fork()
            for one in (farm, fork):
                for before in seen[::-1]:
                    one.undo()
                    self.assertEqual(told(one), before)
                self.assertEqual(told(one), (1, [], 0, [], 0, [], []))
                with self.assertRaises(errors.NothingToUndo) as caught:
                    one.undo()
                self.assertIs(caught.exception.__class__, errors.NothingToUndo)

    def test_calls_of_one_kind(self):
        farm = LiveFarm()
        for size in (1, 1, FAR, 1, 7):
            farm.set_size(size)
        self.assertEqual(farm.log, [("size", size) for size in (1, 1, FAR, 1, 7)])
        for size in (1, FAR, 1, 1, 1):
            farm.undo()
            self.assertEqual(farm.size, size)
        farm.put_fence("a", LOW)
        for _ in range(3):
            farm.take_fence("a")
            farm.put_fence("a", WHOLE)
        self.assertEqual([call[0] for call in farm.log], ["put"] + ["take", "put"] * 3)
        farm.undo()
        self.assertEqual((farm.names, len(farm), farm.total), ([], 0, 0))
        farm.undo()
        self.assertEqual(farm.fence_named("a"), WHOLE)

    def test_far_sizes_and_corners(self):
        farm = LiveFarm()
        farm.put_fence("ring", (30, RING, [0, 5]))
        farm.put_fence("ten", (7, TEN, []))
        farm.set_size(FAR)
        self.assertEqual(farm.count_named("ring"), stake_count((30, RING, [0, 5]), FAR))
        self.assertEqual(farm.total, stake_count((30, RING, [0, 5]), FAR) + stake_count((7, TEN, []), FAR))
        for move in MOVE_LIST[2:]:
            farm.move_fence("ten", move)
            self.assertEqual(farm.count_named("ten"), stake_count(farm.fence_named("ten"), FAR))
        self.assertEqual(farm.fence_named("ten"), gone_through(farm.log)[0]["ten"])

    def test_fences_stay_as_they_were_told(self):
        for fence in ((30, [(15, 30)], []), (6, [(0, 0), (6, 0)], [0]), (4, [(0, 0), (8, 0), (0, 4)], [2])):
            farm = LiveFarm()
            farm.put_fence("a", fence)
            self.assertEqual((farm.fence_named("a"), farm.log), (fence, [("put", "a", fence)]))
            farm.move_fence("a", (1, 0, 0, 1, 0, 0))
            self.assertEqual(farm.fence_named("a"), fence)

    def test_names(self):
        farm = LiveFarm()
        names = ["z", "a", "aa", "b", "az", "abcdefgh", "zzzzzzzz", "abcdefg", "m"]
        for number, name in enumerate(names, 1):
            farm.put_fence(name, POINT)
            self.assertEqual((farm.names, len(farm)), (sorted(names[:number]), number))
        for name in names[::-1]:
            farm.take_fence(name)
        self.assertEqual((farm.names, len(farm)), ([], 0))

    def test_20_fences(self):
        farm = LiveFarm()
        for number in range(20):
            farm.put_fence("abcdefghijklmnopqrstuvwxyz"[number], SOME[number])
        self.assertEqual((len(farm), farm.total), (20, sum(stake_count(fence, 1) for fence in SOME[:20])))
        before = told(farm)
        for name in ("u", "abcdefgh"):
            with self.assertRaises(errors.Impossible) as caught:
                farm.put_fence(name, LOW)
            self.assertIs(caught.exception.__class__, errors.Impossible)
        self.assertEqual(told(farm), before)
        # The name and the fence are checked ahead of the number of fences.
        with self.assertRaises(errors.InvalidName):
            farm.put_fence("a", LOW)
        with self.assertRaises(errors.InvalidFence):
            farm.put_fence("u", None)
        farm.take_fence("c")
        farm.put_fence("u", LOW)
        self.assertEqual(len(farm), 20)
        farm.undo()
        farm.undo()
        self.assertEqual(told(farm), before)


class TestErrors(unittest.TestCase):
    def setUp(self):
        self.farm = LiveFarm()
        self.farm.put_fence("a", LOW)
        self.farm.put_fence("far", (1, [(FAR, 0)], []))
        self.farm.set_size(4)

    def check_error(self, error, fields, function, *values, **named):
        before, fork = told(self.farm), self.farm.fork()
        with self.assertRaises(errors.FenceError) as caught:
            function(*values, **named)
        self.assertIs(caught.exception.__class__, error)
        if fields is not None:
            self.assertEqual(vars(caught.exception), fields)
        self.assertEqual(told(self.farm), before)
        self.assertEqual(self.farm, fork)
        # What undo takes back is the same as well.
        again = self.farm.fork()
        for farm in (again, fork):
            farm.undo()
        self.assertEqual(told(again), told(fork))

    def test_names(self):
        farm = self.farm
        for name in WRONG_NAMES + ["b", "aa"]:
            self.check_error(errors.InvalidName, {}, farm.take_fence, name)
            self.check_error(errors.InvalidName, {}, farm.fence_named, name)
            self.check_error(errors.InvalidName, {}, farm.count_named, name)
            self.check_error(errors.InvalidName, {}, farm.move_fence, name, (1, 0, 0, 1, 0, 0))
            self.check_error(errors.InvalidName, {}, farm.move_fence, name, None)
        for name in WRONG_NAMES + ["a", "far"]:
            self.check_error(errors.InvalidName, {}, farm.put_fence, name, WHOLE)
            self.check_error(errors.InvalidName, {}, farm.put_fence, name, None)
        for name in WRONG_NAMES[:30:7]:
            self.check_error(errors.InvalidName, {}, farm.put_fence, fence=None, name=name)
            self.check_error(errors.InvalidName, {}, farm.move_fence, move=None, name=name)
            self.check_error(errors.InvalidName, {}, farm.take_fence, name=name)
            self.check_error(errors.InvalidName, {}, farm.fence_named, name=name)
            self.check_error(errors.InvalidName, {}, farm.count_named, name=name)

    def test_fences_sizes_and_moves(self):
        farm = self.farm
        for value, error, fields in FENCES[::3]:
            self.check_error(error, fields, farm.put_fence, "new", value)
        for value, error, fields in SIZES:
            self.check_error(error, fields, farm.set_size, value)
            self.check_error(error, fields, farm.set_size, size=value)
        for value, error, fields in MOVES[::2]:
            self.check_error(error, fields, farm.move_fence, "a", value)

    def test_moves_out_of_range(self):
        farm = self.farm
        self.check_error(errors.Impossible, {}, farm.move_fence, "far", (1, 0, 0, 1, 1, 0))
        self.check_error(errors.Impossible, {}, farm.move_fence, "a", (1, 0, 0, 1, 0, FAR))
        self.check_error(errors.Impossible, {}, farm.move_fence, move=(1, FAR + 1, 0, 1, 0, 0), name="a")
        farm.move_fence("far", (1, 0, 0, 1, 0, FAR))
        farm.move_fence("far", (1, 0, 0, 1, -2 * FAR, 0))
        self.assertEqual(farm.fence_named("far"), (1, [(-FAR, FAR)], []))

    def test_nothing_to_undo(self):
        farm = LiveFarm()
        for _ in range(2):
            with self.assertRaises(errors.NothingToUndo):
                farm.undo()
            self.assertEqual(told(farm), (1, [], 0, [], 0, [], []))
        farm.set_size(2)
        farm.undo()
        with self.assertRaises(errors.NothingToUndo):
            farm.undo()

    def test_names_of_other_strings(self):
        farm = LiveFarm()
        for name in ("a", "z", "abcdefgh"):
            self.assertIs(farm.put_fence(name=name, fence=POINT), None)
        self.assertEqual(farm.count_named(name="abcdefgh"), 0)
        self.assertIs(farm.set_size(size=6), None)
        self.assertEqual((farm.count_named(name="a"), farm.fence_named(name="z")), (1, POINT))
        self.assertIs(farm.move_fence(name="a", move=(1, 0, 0, 1, 1, 1)), None)
        self.assertIs(farm.take_fence(name="z"), None)
        self.assertEqual(farm.names, ["a", "abcdefgh"])


class TestForkAndEqual(unittest.TestCase):
    def some_farm(self, seed, many):
        source, farm = random.Random(seed), LiveFarm()
        for _ in range(many):
            carry_out(farm, some_call(source, farm))
        return farm

    def test_forks_go_ways_of_their_own(self):
        for seed in range(10):
            farm = self.some_farm(seed, 30)
            fork = farm.fork()
            self.assertIs(fork.__class__, LiveFarm)
            self.assertEqual((told(farm), farm == fork), (told(fork), True))
            before, source = told(farm), random.Random(seed + 100)
            for _ in range(20):
                carry_out(fork, some_call(source, fork))
            self.assertEqual(told(farm), before)
            there = told(fork)
            for _ in range(10):
                farm.undo()
            for _ in range(5):
                carry_out(farm, some_call(source, farm))
            self.assertEqual(told(fork), there)
            # Both can take back the calls ahead of the fork.
            for _ in range(20):
                fork.undo()
            self.assertEqual(told(fork), before)
            for _ in range(30):
                fork.undo()
            self.assertEqual(told(fork), (1, [], 0, [], 0, [], []))
            for _ in range(25):
                farm.undo()
            self.assertEqual(told(farm), (1, [], 0, [], 0, [], []))

    def test_forks_of_forks(self):
        farm = LiveFarm()
        forks = [farm]
        for size in range(1, 8):
            forks.append(forks[-1].fork())
            forks[-1].set_size(size)
        self.assertEqual([len(fork.log) for fork in forks], list(range(8)))
        for fork in forks[:0:-1]:
            fork.undo()
        self.assertEqual([len(fork.log) for fork in forks], [0, 0, 1, 2, 3, 4, 5, 6])

    def test_equal_logs(self):
        for seed in range(6):
            one, two = self.some_farm(seed, 25), self.some_farm(seed, 25)
            self.assertIs(one == two, True)
            self.assertIs(one != two, False)
            two.undo()
            self.assertIs(one == two, False)
            self.assertIs(one != two, True)
            one.undo()
            self.assertIs(one == two, True)

    def test_other_logs_with_the_same_state(self):
        one, two = LiveFarm(), LiveFarm()
        self.assertIs(one == two, True)
        one.set_size(1)
        self.assertIs(one == two, False)
        two.set_size(1)
        self.assertIs(one == two, True)
        one.put_fence("a", LOW)
        one.put_fence("b", WHOLE)
        two.put_fence("b", WHOLE)
        two.put_fence("a", LOW)
        self.assertEqual((told(one)[:3], one == two), (told(two)[:3], False))
        three, four = LiveFarm(), LiveFarm()
        three.put_fence("a", LOW)
        four.put_fence("a", (4, [(0, 0), (4, 0), (0, 2)], []))
        self.assertIs(three == four, False)

    def test_other_values(self):
        farm = self.some_farm(3, 5)
        for value in (None, 0, 1, True, "farm", [], farm.log, (), {}, object(), LiveFarm, farm.fence_named, told(farm), 1.0):
            self.assertIs(farm == value, False)
            self.assertIs(value == farm, False)
            self.assertIs(farm != value, True)
        self.assertIs(LiveFarm() == [], False)
        self.assertIs(farm.__eq__(farm), True)
        self.assertIs(farm.__eq__([]), False)


class TestKeeping(unittest.TestCase):
    def test_what_is_passed_can_be_changed(self):
        farm, fence = LiveFarm(), (2, [(0, 0), (2, 0), (0, 1)], [2])
        farm.put_fence("a", fence)
        farm.set_size(4)
        before = told(farm)
        self.assertEqual(fence, (2, [(0, 0), (2, 0), (0, 1)], [2]))
        fence[1].append((9, 9))
        fence[2].clear()
        self.assertEqual(told(farm), before)
        farm.undo()
        self.assertEqual((farm.count_named("a"), farm.total), (1, 1))
        farm.set_size(4)
        self.assertEqual((told(farm), farm.count_named("a")), (before, 6))

    def test_what_is_told_can_be_changed(self):
        farm = LiveFarm()
        for call in (("put", "a", LOW), ("put", "b", STRETCH), ("size", 4), ("move", "b", MOVE_LIST[0]), ("put", "c", WHOLE)):
            carry_out(farm, call)
        fork, before = farm.fork(), copy.deepcopy(told(farm))
        for tell in (lambda: farm.log, lambda: farm.names, lambda: farm.fence_named("a"), lambda: farm.fence_named("b")):
            one, two = tell(), tell()
            known = lists_in(two)
            self.assertFalse(any(found is other for found in lists_in(one) for other in known))
            self.assertEqual(len({id(found) for found in lists_in(one)}), len(lists_in(one)))
            for found in lists_in(one):
                found.append("changed")
            self.assertEqual(tell(), two)
            for found in lists_in(two):
                found.clear()
            self.assertEqual(told(farm), before)
        self.assertEqual((told(fork), fork == farm), (before, True))
        farm.undo()
        farm.undo()
        self.assertEqual(farm.fence_named("b"), STRETCH)

    def test_a_told_fence_can_be_put(self):
        farm = LiveFarm()
        farm.put_fence("a", LOW)
        told_fence = farm.fence_named("a")
        farm.put_fence("b", told_fence)
        told_fence[1].clear()
        self.assertEqual((farm.fence_named("a"), farm.fence_named("b")), (LOW, LOW))
        farm.put_fence("c", farm.log[0][2])
        self.assertEqual(farm.total, 6)

    def test_equal_calls_give_equal_answers(self):
        farm = LiveFarm()
        farm.put_fence("a", LOW)
        self.assertEqual(told(farm), told(farm))
        self.assertEqual([part.__class__ for part in told(farm)[:5]], [int, list, int, list, int])
        self.assertEqual([call.__class__ for call in farm.log], [tuple])
        self.assertEqual([part.__class__ for part in farm.fence_named("a")], [int, list, list])

    def test_properties_are_not_set_from_outside(self):
        farm = LiveFarm()
        for name in ("size", "names", "total", "log"):
            self.assertIsInstance(vars(LiveFarm)[name], property)
            with self.assertRaises(AttributeError):
                setattr(farm, name, 1)


if __name__ == "__main__":
    unittest.main()
