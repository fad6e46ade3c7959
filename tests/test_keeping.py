"""[2]: arguments stay as they were, returned lists are new ones, equal calls give equal answers."""

import copy
import unittest

from growfences import compare, counts, cuts, fences, gaps, hulls, moves, places, rules, seen, sizes, texts, widths

FIELD = (4, [(-4, 0), (4, -4), (8, 0), (0, 8)], [0, 2])
STRETCH = (2, [(0, 1), (2, 1)], [1])
POINT = (6, [(3, 2)], [])
SQUARE = (2, [(0, 0), (2, 0), (2, 2), (0, 2)], [])
POINTS = [(2, 2), (0, 0), (2, 0), (1, 1), (0, 2), (0, 0)]


def calls():
    """Functions with their arguments, made anew each time."""
    made = [(fences.fence_of, (2, list(POINTS))), (fences.fence_of, (2, [(1, 1), (0, 0)])), (fences.fence_of, (1, [(5, 5)]))]
    for fence in (FIELD, STRETCH, POINT):
        for function in (
            fences.is_fence, fences.lowest_fence, fences.closed_fence, fences.shut_fence, fences.turned_fence,
            fences.fence_kind, fences.fence_area,
            rules.counting_rule, rules.rule_period, rules.part_periods, rules.side_sizes,
            gaps.size_step, gaps.stake_sizes, gaps.empty_sizes, gaps.last_empty,
        ):
            made.append((function, (copy.deepcopy(fence),)))
        made.append((rules.series_row, (fences.closed_fence(fence),)))
        for number in (0, 1, 7):
            made.append((sizes.sizes_with, (copy.deepcopy(fence), number)))
            made.append((sizes.first_size, (copy.deepcopy(fence), number)))
        made.append((sizes.total_count, (copy.deepcopy(fence), 2, 9)))
        made.append((gaps.has_stakes, (copy.deepcopy(fence), 6)))
        made.append((rules.rule_count, (rules.counting_rule(fence), 7)))
        made.append((moves.moved_fence, (copy.deepcopy(fence), (0, 1, 1, 0, 2, -2))))
        made.append((moves.moved_fence, (copy.deepcopy(fence), (1, 0, 0, 1, 0, 0))))
        made.append((widths.fence_width, (copy.deepcopy(fence), (2, -1))))
        made.append((widths.line_number, (copy.deepcopy(fence), 3, (2, -1))))
        for size in (1, 4, 6):
            made.append((hulls.stake_hull, (copy.deepcopy(fence), size)))
            made.append((hulls.inner_fence, (copy.deepcopy(fence), size)))
        for other in (FIELD, STRETCH, POINT):
            for function in (
                fences.are_same, compare.are_alike, compare.parting_size, compare.alike_sizes, compare.first_fewer,
                compare.fewer_sizes,
            ):
                made.append((function, (copy.deepcopy(fence), copy.deepcopy(other))))
        for function in (counts.stake_count, places.stake_rows):
            made.append((function, (copy.deepcopy(fence), 6)))
        for function in (counts.row_count, counts.below_count, places.row_stakes):
            made.append((function, (copy.deepcopy(fence), 6, 3)))
        stake = places.nth_stake(fence, 6, 0)
        made.append((counts.holds_stake, (copy.deepcopy(fence), 6, stake)))
        made.append((places.stake_index, (copy.deepcopy(fence), 6, stake)))
        made.append((places.nth_stake, (copy.deepcopy(fence), 6, 0)))
    for field in (FIELD, SQUARE):
        made.append((widths.thin_directions, (copy.deepcopy(field),)))
        made.append((moves.own_moves, (copy.deepcopy(field),)))
        for other in (FIELD, SQUARE):
            made.append((moves.move_between, (copy.deepcopy(field), copy.deepcopy(other))))
        for line in ((1, 0, 0), (1, 0, -9), (1, 0, 9), (2, 2, 1)):
            made.append((cuts.cut_fence, (fences.closed_fence(field), line)))
            made.append((cuts.cut_counts, (fences.closed_fence(field), line, 5)))
    made.append((cuts.cut_fence, (copy.deepcopy(SQUARE), (-1, 0, 0))))
    for bottom, looks in ((1, [(1, 6)]), (2, []), (3, [(3, 4), (1, 1)]), (12, [(12, 6), (60, 66)])):
        for function in (seen.fits_count, seen.clash_index, seen.telling_sizes):
            made.append((function, (bottom, list(looks))))
        made.append((seen.nth_fit, (bottom, list(looks), 0)))
        made.append((seen.sure_counts, (bottom, list(looks), 5)))
    for fence in (FIELD, STRETCH, POINT):
        made.append((texts.format_fence, (copy.deepcopy(fence),)))
        made.append((texts.format_rule, (rules.counting_rule(fence),)))
        made.append((texts.parse_fence, (texts.format_fence(fence),)))
        made.append((texts.parse_rule, (texts.format_rule(rules.counting_rule(fence)),)))
    made.append((texts.parse_move, ("0 1 1 0 2 -2",)))
    made.append((moves.is_move, ([1, 0, 0, 1, 0, 0],)))
    made.append((rules.rule_through, ([2, 4, 6, 9, 12, 16],)))
    made.append((rules.rule_through, ([5] * 90,)))
    for fence in (FIELD, STRETCH):
        made.append((counts.side_count, (copy.deepcopy(fence), 1, 6)))
    return made


def lists_in(value):
    """All lists in a value, at any depth."""
    if not isinstance(value, (list, tuple)):
        return []
    found = [value] if isinstance(value, list) else []
    for item in value:
        found.extend(lists_in(item))
    return found


class TestKeeping(unittest.TestCase):
    def test_arguments_stay_as_they_were(self):
        for function, arguments in calls():
            before = copy.deepcopy(arguments)
            function(*arguments)
            self.assertEqual(arguments, before, function)

    def test_equal_calls_give_equal_answers(self):
        for one, two in zip(calls(), calls()):
            answer = one[0](*one[1])
            self.assertEqual(answer, one[0](*one[1]))
            self.assertEqual(answer, two[0](*two[1]))
            self.assertIs(answer.__class__, two[0](*two[1]).__class__)

    def test_returned_lists_are_new(self):
        for function, arguments in calls():
            one, two = function(*arguments), function(*arguments)
            known = lists_in(arguments) + lists_in(two)
            for found in lists_in(one):
                self.assertFalse(any(found is other for other in known), function)
            self.assertEqual(len({id(found) for found in lists_in(one)}), len(lists_in(one)), function)

    def test_changed_answers_and_arguments_have_no_effect(self):
        for number, (function, arguments) in enumerate(calls()):
            answer = function(*arguments)
            before = copy.deepcopy(answer)
            for found in lists_in(function(*arguments)):
                found.append("changed")
            self.assertEqual(function(*arguments), before, function)
            for found in lists_in(arguments):
                found.clear()
            self.assertEqual(answer, before, function)
            again = calls()[number]
            self.assertEqual(again[0](*again[1]), before, function)

    def test_answers_are_arguments(self):
        for fence in (FIELD, STRETCH, POINT):
            for make in (fences.lowest_fence, fences.closed_fence, fences.shut_fence, fences.turned_fence):
                made = make(fence)
                self.assertIs(fences.is_fence(made), True)
                self.assertEqual([part.__class__ for part in made], [int, list, list])
                self.assertEqual({corner.__class__ for corner in made[1]}, {tuple})
                self.assertGreaterEqual(counts.stake_count(made, 12), 0)
                self.assertEqual(fences.fence_of(made[0], made[1]), fences.closed_fence(made))

    def test_rules_and_sizes_are_arguments(self):
        for fence in (FIELD, STRETCH, POINT):
            rule = rules.counting_rule(fence)
            self.assertEqual([rules.rule_count(rule, size) for size in (1, 12)], [
                (counts.stake_count(fence, size), 1) for size in (1, 12)
            ])
            self.assertTrue(all(gaps.has_stakes(fence, size) for size in gaps.stake_sizes(fence)))
            self.assertFalse(any(gaps.has_stakes(fence, size) for size in gaps.empty_sizes(fence)))
            self.assertEqual(sizes.total_count(fence, sizes.first_size(fence, 1), 1), counts.stake_count(fence, 1))
            row = rules.series_row(fences.closed_fence(fence))
            through = rules.rule_through(row * 3)
            self.assertEqual([rules.rule_count(through, size) for size in range(1, len(row) + 1)], [(part, 1) for part in row])

    def test_moved_and_cut_fences_are_arguments(self):
        made = [moves.moved_fence(fence, (2, 1, 1, 1, 3, 0)) for fence in (FIELD, STRETCH, POINT)]
        made += [part for part in cuts.cut_fence(SQUARE, (1, 1, 1)) if part is not None]
        made += [hulls.inner_fence(FIELD, 4), moves.moved_fence(SQUARE, moves.own_moves(SQUARE)[0])]
        for fence in made:
            self.assertIs(fences.is_fence(fence), True)
            self.assertEqual({corner.__class__ for corner in fence[1]}, {tuple})
            self.assertGreaterEqual(counts.stake_count(fence, 12), 0)
            if fences.fence_kind(fence) == "field":
                self.assertIs(moves.is_move(moves.move_between(fence, fence)), True)
                for direction in widths.thin_directions(fence)[1]:
                    self.assertEqual(widths.fence_width(fence, direction), widths.thin_directions(fence)[0])

    def test_one_object_at_both_arguments(self):
        self.assertEqual(moves.move_between(SQUARE, SQUARE), moves.own_moves(SQUARE)[0])
        move = (2, 1, 1, 1, 3, 0)
        self.assertEqual(moves.joined_move(move, move), (5, 3, 3, 2, 9, 3))
        for fence in (FIELD, STRETCH, POINT):
            before = copy.deepcopy(fence)
            self.assertIs(compare.are_alike(fence, fence), True)
            self.assertEqual(compare.fewer_sizes(fence, fence), [])
            self.assertEqual(compare.alike_sizes(fence, fence), compare.alike_sizes(fence, copy.deepcopy(fence)))
            self.assertEqual(fence, before)


if __name__ == "__main__":
    unittest.main()
