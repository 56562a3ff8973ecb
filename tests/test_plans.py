"""Tests of paneplans.plans: promise 8, with 2, 3 and 4."""

import itertools
import random
import unittest

from desks import (
    BIG, LAYOUTS, P, all_layouts, assert_interface, assert_rejects, assert_steady, mixed, strip, tower)
from paneplans import plans
from paneplans.errors import InvalidPane, InvalidPlan
from paneplans.layouts import is_layout, panes_along, segments_of
from paneplans.plans import borders_of, drawn_layout, is_plan, pattern_in, segments_in, way_in
from paneplans.relations import falling_row, plan_of, rising_row, way_of
from rows import (
    DOWN, NO_ROWS, P_PLAN, PLANS, UP, WRONG_ROWS, all_plans, assert_rejects_plans, mixed_plan, slow_borders,
    slow_drawn, slow_pattern, slow_way)

P_DRAWN = [(0, 0, 3, 1), (0, 1, 2, 5), (2, 1, 3, 4), (3, 0, 5, 4), (2, 4, 5, 5)]


class InterfaceTest(unittest.TestCase):
    def test_functions_and_arguments(self):
        assert_interface(self, plans, {
            "is_plan": ["thing"], "pattern_in": ["row"], "way_in": ["plan", "first", "second"],
            "drawn_layout": ["plan"], "segments_in": ["plan"], "borders_of": ["plan"]})

    def test_equal_calls(self):
        for plan in PLANS:
            for function in (drawn_layout, segments_in, borders_of):
                assert_steady(self, function, [plan], ["plan"])
            if len(plan) > 1:
                assert_steady(self, way_in, [plan, 0, len(plan) - 1], ["plan", "first", "second"])
        for row in PLANS + WRONG_ROWS:
            assert_steady(self, is_plan, [row], ["thing"])
            assert_steady(self, pattern_in, [row], ["row"])

    def test_wrong_things_stay_as_they_are(self):
        for thing in NO_ROWS:
            before = repr(thing)
            self.assertEqual([is_plan(thing), is_plan(thing=thing)], [False, False])
            assert_rejects(self, lambda: pattern_in(row=thing), InvalidPlan)
            self.assertEqual(repr(thing), before)


class IsPlanTest(unittest.TestCase):
    def test_plans(self):
        for plan in PLANS:
            self.assertIs(is_plan(plan), True, repr(plan))

    def test_wrong_things(self):
        for thing in NO_ROWS + WRONG_ROWS:
            self.assertIs(is_plan(thing), False, repr(thing))

    def test_all_lists_of_up_to_five_numbers(self):
        for many in range(1, 6):
            for row in itertools.product(range(many + 1), repeat=many):
                expected = sorted(row) == list(range(many)) and slow_pattern(row) is None
                self.assertIs(is_plan(list(row)), expected, repr(row))

    def test_most_panes(self):
        for many, expected in ((59, True), (60, True), (61, False), (200, False)):
            self.assertIs(is_plan(list(range(many))), expected)
            self.assertIs(is_plan(list(range(many - 1, -1, -1))), expected)
            self.assertIs(is_plan(mixed_plan(many, 7)), expected)

    def test_plans_of_layouts(self):
        for layout in LAYOUTS + all_layouts(4, 4, 5):
            self.assertIs(is_plan(plan_of(layout)), True)


class PatternInTest(unittest.TestCase):
    def test_patterns(self):
        self.assertEqual(pattern_in(DOWN), (0, 1, 3))
        self.assertEqual(pattern_in(UP), (0, 1, 3))
        self.assertIsNone(pattern_in(P_PLAN))
        self.assertIsNone(pattern_in([0]))
        self.assertEqual(pattern_in(list(range(56)) + [57, 59, 56, 58]), (56, 57, 59))
        self.assertEqual(pattern_in([59, 58] + [row + 54 for row in DOWN] + list(range(54))), (2, 3, 5))

    def test_least_of_several(self):
        # The least i decides, then the least j, then the least k.
        for row in ([2, 3, 6, 0, 5, 4, 1], [2, 5, 0, 3, 6, 1, 4], [2, 5, 0, 4, 3, 1], [3, 1, 6, 0, 5, 4, 2]):
            found = [(i, j, k) for i, j, k in itertools.combinations(range(len(row)), 3) if k > j + 1 and (
                row[j + 1] < row[i] < row[k] < row[j] or row[j] < row[k] < row[i] < row[j + 1])]
            self.assertGreater(len(found), 1, repr(row))
            self.assertEqual(pattern_in(row), min(found), repr(row))
            self.assertEqual(pattern_in(row).__class__, tuple)

    def test_all_rows_of_up_to_seven_numbers(self):
        for many in range(1, 8):
            for row in itertools.permutations(range(many)):
                self.assertEqual(pattern_in(list(row)), slow_pattern(row), repr(row))

    def test_long_rows(self):
        rows = WRONG_ROWS + PLANS
        mixer = random.Random(5)
        for plan in PLANS:
            # Two numbers exchanged, so that patterns are few.
            for _ in range(8):
                row = list(plan)
                one, two = mixer.randrange(len(row)), mixer.randrange(len(row))
                row[one], row[two] = row[two], row[one]
                rows = rows + [row]
        rows = rows + [mixer.sample(range(many), many) for many in (10, 20, 60)]
        for row in rows:
            self.assertEqual(pattern_in(row), slow_pattern(row), repr(row))

    def test_wrong_rows(self):
        for thing in NO_ROWS:
            assert_rejects(self, lambda: pattern_in(thing), InvalidPlan, repr(thing))


class WayInTest(unittest.TestCase):
    def test_ways(self):
        self.assertEqual(way_in([0, 1], 0, 1), "left")
        self.assertEqual(way_in([0, 1], 1, 0), "right")
        self.assertEqual(way_in([1, 0], 0, 1), "above")
        self.assertEqual(way_in([1, 0], 1, 0), "below")
        self.assertEqual([way_in(P_PLAN, 2, pane) for pane in (0, 1, 3, 4)], ["below", "right", "left", "above"])
        self.assertEqual(way_in(list(range(60)), 0, 59), "left")
        self.assertEqual(way_in(list(range(60)), 59, 0), "right")
        self.assertEqual(way_in(list(range(59, -1, -1)), 59, 0), "below")

    def test_as_way_of_the_drawn_layout(self):
        for many in range(2, 6):
            for plan in all_plans(many):
                for first, second in itertools.permutations(range(many), 2):
                    way = way_in(plan, first, second)
                    self.assertEqual(way, slow_way(plan, first, second))
                    self.assertEqual(way, way_of(drawn_layout(plan), first, second))
        plan = mixed_plan(60, 3)
        for pane in range(1, 60):
            self.assertEqual(way_in(plan, 0, pane), way_of(drawn_layout(plan), 0, pane))
            self.assertEqual(way_in(plan, 59, 59 - pane), way_of(drawn_layout(plan), 59, 59 - pane))

    def test_as_way_of_any_layout(self):
        for layout in (P, mixed(12, 1), mixed(20, 2)):
            row, plan = falling_row(layout), plan_of(layout)
            for first, second in itertools.permutations(range(len(layout)), 2):
                self.assertEqual(way_in(plan, first, second), way_of(layout, row[first], row[second]))

    def test_wrong_panes(self):
        for first, second in [(0, 0), (4, 4), (0, 5), (5, 0), (-1, 0), (0, -1), (-5, -4), (0, BIG), (BIG, 0), (60, 61),
                              (5, 5), (-1, -1)]:
            assert_rejects(self, lambda: way_in(P_PLAN, first, second), InvalidPane, repr((first, second)))
        assert_rejects(self, lambda: way_in([0], 0, 0), InvalidPane)
        assert_rejects(self, lambda: way_in([0], 0, 1), InvalidPane)

    def test_the_plan_is_checked_first(self):
        assert_rejects_plans(self, lambda thing: way_in(thing, 0, 1))
        assert_rejects_plans(self, lambda thing: way_in(thing, -1, BIG))
        assert_rejects_plans(self, lambda thing: way_in(thing, 0, 0))


class DrawnLayoutTest(unittest.TestCase):
    def test_layouts(self):
        self.assertEqual(drawn_layout([0]), [(0, 0, 1, 1)])
        self.assertEqual(drawn_layout([0, 1]), [(0, 0, 1, 2), (1, 0, 2, 2)])
        self.assertEqual(drawn_layout([1, 0]), [(0, 0, 2, 1), (0, 1, 2, 2)])
        self.assertEqual(drawn_layout(P_PLAN), P_DRAWN)
        self.assertEqual(drawn_layout(list(range(60))), [(x, 0, x + 1, 60) for x in range(60)])
        self.assertEqual(drawn_layout(list(range(59, -1, -1))), [(0, y, 60, y + 1) for y in range(60)])

    def test_layouts_with_this_plan(self):
        for plan in PLANS + [plan for many in range(1, 7) for plan in all_plans(many)]:
            layout = drawn_layout(plan)
            self.assertEqual(layout, slow_drawn(plan))
            self.assertIs(is_layout(layout), True)
            self.assertEqual(plan_of(layout), plan)
            self.assertEqual(falling_row(layout), list(range(len(plan))))
            self.assertEqual(rising_row(layout), plan)

    def test_wrong_plans(self):
        assert_rejects_plans(self, drawn_layout)


class SegmentsInTest(unittest.TestCase):
    def test_segments(self):
        self.assertEqual(segments_in([0]), [])
        self.assertEqual(segments_in([0, 1]), [("upright", [0], [1])])
        self.assertEqual(segments_in([1, 0]), [("level", [0], [1])])
        self.assertEqual(segments_in(P_PLAN), [("level", [0], [1, 2]), ("upright", [1], [2, 4]),
                                               ("upright", [0, 2], [3]), ("level", [2, 3], [4])])
        self.assertEqual(segments_in(list(range(60))), [("upright", [pane], [pane + 1]) for pane in range(59)])
        self.assertEqual(segments_in(list(range(59, -1, -1))), [("level", [pane], [pane + 1]) for pane in range(59)])

    def test_as_in_the_drawn_layout(self):
        for plan in PLANS + [plan for many in range(1, 7) for plan in all_plans(many)]:
            layout = drawn_layout(plan)
            sides = [(segment[0], *panes_along(layout, segment)) for segment in segments_of(layout)]
            found = []
            for pane in range(1, len(plan)):
                parting = [(kind, sorted(ahead), sorted(behind)) for kind, ahead, behind in sides
                           if pane - 1 in ahead and pane in behind]
                self.assertEqual(len(parting), 1)
                found += parting
            self.assertEqual(segments_in(plan), found)
            for kind, pane in zip([segment[0] for segment in found], range(1, len(plan))):
                self.assertEqual(kind, {"left": "upright", "above": "level"}[way_in(plan, pane - 1, pane)])

    def test_as_in_any_layout(self):
        for layout in LAYOUTS + all_layouts(3, 3, 9):
            names = {pane: name for name, pane in enumerate(falling_row(layout))}
            found = [(segment[0], *(sorted(names[pane] for pane in side) for side in panes_along(layout, segment)))
                     for segment in segments_of(layout)]
            self.assertEqual(sorted(segments_in(plan_of(layout))), sorted(found))

    def test_wrong_plans(self):
        assert_rejects_plans(self, segments_in)


class BordersOfTest(unittest.TestCase):
    def test_borders(self):
        self.assertEqual(borders_of([0]), ([0], [0], [0], [0]))
        self.assertEqual(borders_of([0, 1]), ([0], [0, 1], [1], [0, 1]))
        self.assertEqual(borders_of([1, 0]), ([0, 1], [0], [0, 1], [1]))
        self.assertEqual(borders_of(P_PLAN), ([0, 1], [0, 3], [3, 4], [1, 4]))
        every = list(range(60))
        self.assertEqual(borders_of(every), ([0], every, [59], every))
        self.assertEqual(borders_of(every[::-1]), (every, [0], every, [59]))
        self.assertEqual([part.__class__ for part in (borders_of([0]), *borders_of([0]))], [tuple] + [list] * 4)

    def test_as_in_the_drawn_layout(self):
        for plan in PLANS + [plan for many in range(1, 7) for plan in all_plans(many)]:
            self.assertEqual(borders_of(plan), slow_borders(drawn_layout(plan)))

    def test_as_in_any_layout(self):
        for layout in LAYOUTS + [strip(7)[::-1], tower(7)[::-1]] + all_layouts(3, 3, 9):
            row = falling_row(layout)
            found = tuple(sorted(row.index(pane) for pane in border) for border in slow_borders(layout))
            self.assertEqual(borders_of(plan_of(layout)), found)

    def test_wrong_plans(self):
        assert_rejects_plans(self, borders_of)


if __name__ == "__main__":
    unittest.main()
