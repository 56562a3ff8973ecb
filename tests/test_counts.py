"""Tests of paneplans.counts: promise 10, with 2 and 4 (R3, R4)."""

import itertools
import unittest

from desks import BIG, all_layouts, assert_interface, assert_rejects, assert_steady
from paneplans import counts
from paneplans.codes import code_of, plan_of_code
from paneplans.counts import (
    count_borders, count_cut, count_plans, count_touching, nth_plan, plan_index, ways_to_touch)
from paneplans.errors import InvalidIndex, InvalidNumber
from paneplans.layouts import touching_pairs
from paneplans.plans import borders_of, drawn_layout, is_plan, segments_in
from paneplans.relations import falling_row, plan_of
from rows import P_PLAN, PLANS, all_codes, all_plans, assert_rejects_plans, mixed_plan, slow_four

PLAN_COUNTS = [1, 2, 6, 22, 92, 422, 2074]
TOUCHING_COUNTS = [1, 2, 6, 24, 116, 642, 3938]


def mixed_ends(ahead, behind):
    """Return all sequences in which two lists can be mixed."""
    if not ahead or not behind:
        return [ahead + behind]
    return ([ahead[:1] + rest for rest in mixed_ends(ahead[1:], behind)]
            + [behind[:1] + rest for rest in mixed_ends(ahead, behind[1:])])


def placed(pairs, many):
    """Return for each of so many lines the least place so that the first line of each pair comes first."""
    places = [0] * many
    for _ in range(many):
        for one, other in pairs:
            places[other] = max(places[other], places[one] + 1)
    return places


def layouts_of(plan):
    """Return layouts with this plan, one for each sequence of ends along all segments."""
    drawn = drawn_layout(plan)
    many = len(plan)
    choices = []
    for kind, ahead, behind in segments_in(plan):
        # The ends are named by their places in the drawn layout.
        axis = 1 if kind == "upright" else 0
        ends = [sorted(drawn[pane][axis + 2] for pane in side)[:-1] for side in (ahead, behind)]
        choices.append([(axis, sequence) for sequence in mixed_ends(*ends)])
    found = []
    for choice in itertools.product(*choices):
        lines = []
        for axis in (0, 1):
            pairs = [(corners[axis], corners[axis + 2]) for corners in drawn]
            for along, sequence in choice:
                pairs += itertools.pairwise(sequence) if along == axis else []
            # Lines of the other kind have these numbers, too; they are at no pane's sides here.
            lines.append(placed(pairs, many + 1))
        found.append([(lines[0][x0], lines[1][y0], lines[0][x1], lines[1][y1]) for x0, y0, x1, y1 in drawn])
    return found


def next_borders(found, number):
    """Return how many plans of so many panes have each pair of borders, from those with one pane less."""
    below, beside = {}, {}
    for many in range(number, 0, -1):
        for other in range(1, number + 1):
            # Put below: as many or more at the lower border became many. Put beside: likewise at the right border.
            below[many, other] = below.get((many + 1, other), 0) + found.get((many, other - 1), 0)
            beside[other, many] = beside.get((other, many + 1), 0) + found.get((other - 1, many), 0)
    return {key: below[key] + beside[key] for key in below}


class InterfaceTest(unittest.TestCase):
    def test_functions_and_arguments(self):
        assert_interface(self, counts, {
            "count_plans": ["number"], "count_borders": ["number", "right", "lower"], "nth_plan": ["number", "index"],
            "plan_index": ["plan"], "count_cut": ["number"], "ways_to_touch": ["plan"],
            "count_touching": ["number"]})

    def test_equal_calls(self):
        for number in (1, 2, 5):
            for function in (count_plans, count_cut, count_touching):
                assert_steady(self, function, [number], ["number"])
        assert_steady(self, count_borders, [5, 2, 1], ["number", "right", "lower"])
        for number, index in ((1, 0), (5, 91), (60, 10 ** 45)):
            assert_steady(self, nth_plan, [number, index], ["number", "index"])
        for plan in PLANS:
            assert_steady(self, plan_index, [plan], ["plan"])
            assert_steady(self, ways_to_touch, [plan], ["plan"])

    def test_each_argument_by_its_name(self):
        self.assertEqual(count_borders(lower=2, right=3, number=4), count_borders(4, 3, 2))
        self.assertEqual(nth_plan(index=3, number=4), nth_plan(4, 3))


class CountPlansTest(unittest.TestCase):
    def test_counts(self):
        self.assertEqual([count_plans(number) for number in range(1, 8)], PLAN_COUNTS)

    def test_against_all_rows_and_codes(self):
        for number in range(1, 8):
            if number < 7:
                self.assertEqual(count_plans(number), len(all_plans(number)))
            self.assertEqual(count_plans(number), len(all_codes(number)))

    def test_up_to_two_hundred(self):
        # The Baxter numbers also follow one another so.
        found = [count_plans(number) for number in range(1, 201)]
        for n in range(3, 201):
            self.assertEqual((n + 2) * (n + 3) * found[n - 1],
                             (7 * n * n + 7 * n - 2) * found[n - 2] + 8 * (n - 1) * (n - 2) * found[n - 3])

    def test_wrong_numbers(self):
        for number in (0, -1, 201, 202, BIG, -BIG, -200):
            assert_rejects(self, lambda: count_plans(number), InvalidNumber, repr(number))


class CountBordersTest(unittest.TestCase):
    def test_counts(self):
        self.assertEqual(count_borders(1, 1, 1), 1)
        self.assertEqual([count_borders(2, 1, 2), count_borders(2, 2, 1)], [1, 1])
        self.assertEqual([count_borders(2, 1, 1), count_borders(2, 2, 2), count_borders(1, 1, 2)], [0, 0, 0])
        # All panes at the right border: one above the other.
        self.assertEqual(count_borders(60, 60, 1), 1)
        self.assertEqual(count_borders(60, 1, 60), 1)
        self.assertEqual(count_borders(60, 60, 2), 0)

    def test_right_and_lower_are_not_exchanged(self):
        # One is at the right, three are at the lower border in [0, 1, 2] alone.
        self.assertEqual(count_borders(3, 1, 3), 1)
        found = [plan for plan in all_plans(4) if len(borders_of(plan)[2]) == 1 and len(borders_of(plan)[3]) == 2]
        self.assertEqual(count_borders(4, 1, 2), len(found))

    def test_against_all_plans(self):
        for number in range(1, 7):
            ends = [tuple(len(border) for border in borders_of(plan)[2:]) for plan in all_plans(number)]
            for right, lower in itertools.product(range(-2, number + 3), repeat=2):
                self.assertEqual(count_borders(number, right, lower), ends.count((right, lower)))

    def test_against_all_codes_of_seven_panes(self):
        ends = [tuple(len(border) for border in borders_of(plan_of_code(code))[2:]) for code in all_codes(7)]
        for right, lower in itertools.product(range(9), repeat=2):
            self.assertEqual(count_borders(7, right, lower), ends.count((right, lower)))

    def test_against_growing_borders(self):
        # By R3 v and h become 1 to v and h + 1, or v + 1 and 1 to h.
        found = {(1, 1): 1}
        for number in range(1, 61):
            if number < 13 or number in (29, 47, 60):
                for lower, right in itertools.product(range(1, number + 2), repeat=2):
                    self.assertEqual(count_borders(number, right, lower), found.get((lower, right), 0))
            found = next_borders(found, number + 1)

    def test_sums(self):
        for number in (8, 25):
            found = [count_borders(number, right, lower) for right in range(1, number + 1)
                     for lower in range(1, number + 1)]
            self.assertEqual(sum(found), count_plans(number))
        # One pane alone at a border: the last one, put beside any plan without it.
        self.assertEqual(sum(count_borders(60, 1, lower) for lower in range(1, 61)), count_plans(59))
        self.assertEqual(sum(count_borders(60, right, 1) for right in range(1, 61)), count_plans(59))
        self.assertEqual(count_borders(60, 23, 17), count_borders(60, 17, 23))

    def test_any_integers(self):
        for number in (1, 5, 60):
            for one, other in itertools.product((0, -1, -60, BIG, -BIG, 10 ** 60, 61, 1), repeat=2):
                if (one, other) != (1, 1):
                    self.assertEqual(count_borders(number, one, other), 0, repr((number, one, other)))

    def test_wrong_numbers(self):
        for number in (0, -1, 61, 200, BIG, -BIG):
            for right, lower in ((1, 1), (0, -1), (BIG, BIG)):
                assert_rejects(self, lambda: count_borders(number, right, lower), InvalidNumber, repr(number))


class NthPlanTest(unittest.TestCase):
    def test_all_indices(self):
        for number in range(1, 7):
            codes = sorted(all_codes(number))
            for index, code in enumerate(codes):
                plan = nth_plan(number, index)
                self.assertEqual(plan, plan_of_code(code))
                self.assertEqual(plan_index(plan), index)
            for index in (-1, -2, len(codes), len(codes) + 1, BIG, -BIG, 10 ** 60 - 1):
                assert_rejects(self, lambda: nth_plan(number, index), InvalidIndex, repr(index))

    def test_first_and_last(self):
        for number in (1, 2, 7, 59, 60):
            most = count_plans(number)
            self.assertEqual(nth_plan(number, 0), list(range(number)))
            self.assertEqual(nth_plan(number, most - 1), list(range(number - 1, -1, -1)))
            self.assertEqual(plan_index(list(range(number))), 0)
            self.assertEqual(plan_index(list(range(number - 1, -1, -1))), most - 1)
            assert_rejects(self, lambda: nth_plan(number, -1), InvalidIndex)
            assert_rejects(self, lambda: nth_plan(number, most), InvalidIndex)

    def test_sixty_panes(self):
        most = count_plans(60)
        self.assertEqual(len(str(most)), 48)
        for index in [1, 2, most - 2, most // 2, most // 3, 10 ** 47, 10 ** 30] + [most * part // 97 for part in range(97)]:
            plan = nth_plan(60, index)
            self.assertIs(is_plan(plan), True)
            self.assertEqual(plan_index(plan), index)
        for seed in range(8):
            plan = mixed_plan(60, seed)
            self.assertEqual(nth_plan(60, plan_index(plan)), plan)

    def test_codes_ascend(self):
        for number, start in ((60, 10 ** 46), (33, 10 ** 20), (10, 5)):
            found = [code_of(nth_plan(number, start + step)) for step in range(12)]
            self.assertEqual(found, sorted(found))
            self.assertEqual(len({tuple(code) for code in found}), 12)

    def test_wrong_numbers(self):
        for number in (0, -1, 61, BIG, -BIG):
            for index in (0, -1, BIG):
                assert_rejects(self, lambda: nth_plan(number, index), InvalidNumber, repr(number))


class PlanIndexTest(unittest.TestCase):
    def test_indices(self):
        self.assertEqual(plan_index([0]), 0)
        self.assertEqual([plan_index([0, 1]), plan_index([1, 0])], [0, 1])
        self.assertEqual(plan_index(P_PLAN), sorted(all_codes(5)).index([1, -1, -2, 2]))

    def test_wrong_plans(self):
        assert_rejects_plans(self, plan_index)


class CountCutTest(unittest.TestCase):
    def test_counts(self):
        self.assertEqual([count_cut(number) for number in range(1, 9)], [1, 2, 6, 22, 90, 394, 1806, 8558])

    def test_against_all_codes(self):
        for number in range(1, 8):
            plans = [plan_of_code(code) for code in all_codes(number)]
            self.assertEqual(count_cut(number), sum(slow_four(plan) is None for plan in plans))

    def test_up_to_two_hundred(self):
        # The Schroeder numbers also follow one another so.
        found = [count_cut(number) for number in range(1, 201)]
        for n in range(2, 200):
            self.assertEqual((n + 1) * found[n], 3 * (2 * n - 1) * found[n - 1] - (n - 2) * found[n - 2])

    def test_wrong_numbers(self):
        for number in (0, -1, 201, BIG, -BIG):
            assert_rejects(self, lambda: count_cut(number), InvalidNumber, repr(number))


class WaysToTouchTest(unittest.TestCase):
    def test_counts(self):
        self.assertEqual(ways_to_touch([0]), 1)
        self.assertEqual(ways_to_touch([0, 1]), 1)
        self.assertEqual(ways_to_touch(P_PLAN), 1)
        # Two above two, or two beside two: the ends can follow one another in two ways.
        self.assertEqual(ways_to_touch([2, 3, 0, 1]), 2)
        self.assertEqual(ways_to_touch([1, 0, 3, 2]), 2)
        self.assertEqual(ways_to_touch(list(range(60))), 1)
        # Thirty above thirty: 29 ends at either side.
        above = list(range(30, 60)) + list(range(30))
        self.assertEqual(ways_to_touch(above), 30067266499541040)

    def test_against_layouts(self):
        # So many columns and rows are enough for all that so few panes can do.
        found = {}
        for size, most in ((1, 1), (2, 2), (3, 3), (4, 4), (5, 5)):
            for layout in all_layouts(size, size, most):
                names = {pane: name for name, pane in enumerate(falling_row(layout))}
                pairs = sorted(tuple(sorted((names[one], names[other]))) for one, other in touching_pairs(layout))
                found.setdefault(tuple(plan_of(layout)), set()).add(tuple(pairs))
        for number in range(1, 6):
            for plan in all_plans(number):
                self.assertEqual(ways_to_touch(plan), len(found[tuple(plan)]), repr(plan))

    def test_each_sequence_of_ends_can_be_had(self):
        for plan in all_plans(6) + all_plans(7) + [mixed_plan(12, seed) for seed in range(40)]:
            layouts = layouts_of(plan)
            for layout in layouts:
                self.assertEqual([plan_of(layout), falling_row(layout)], [plan, list(range(len(plan)))])
            self.assertEqual(len({tuple(touching_pairs(layout)) for layout in layouts}), len(layouts))
            self.assertEqual(ways_to_touch(plan), len(layouts), repr(plan))

    def test_wrong_plans(self):
        assert_rejects_plans(self, ways_to_touch)


class CountTouchingTest(unittest.TestCase):
    def test_counts(self):
        self.assertEqual([count_touching(number) for number in range(1, 8)], TOUCHING_COUNTS)

    def test_sums(self):
        for number in range(1, 8):
            plans = [plan_of_code(code) for code in all_codes(number)]
            self.assertEqual(count_touching(number), sum(ways_to_touch(plan) for plan in plans))

    def test_wrong_numbers(self):
        for number in (0, -1, 8, 60, BIG, -BIG):
            assert_rejects(self, lambda: count_touching(number), InvalidNumber, repr(number))


if __name__ == "__main__":
    unittest.main()
