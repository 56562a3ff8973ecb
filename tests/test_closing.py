"""Tests of paneplans.closing: promise 12, with 2, 3 and 4 (R6)."""

import itertools
import unittest

from desks import (
    BESIDE, BIG, CUT, LAYOUTS, ONE, P, SHIFTED, SHIFTED_BACK, STACKED, all_layouts, assert_interface, assert_rejects,
    assert_rejects_layouts, assert_steady, four_meet, least_meeting, mixed, owners, scaled, slow_along, slow_lines,
    slow_ways, strip, tower, turned)
from paneplans import closing
from paneplans.closing import alone_sides, closed_layout, closed_plan, middle_panes, open_sides
from paneplans.errors import InvalidPane, InvalidWord, Meeting, NotAlone
from paneplans.layouts import is_layout, panes_along, segment_at
from paneplans.plans import drawn_layout, is_plan
from paneplans.relations import falling_row, plan_of, rising_row, way_of
from rows import P_PLAN, PLANS, all_plans, assert_rejects_plans, mixed_plan

SIDES = ("left", "top", "right", "bottom")
WRONG_WORDS = ("", "Left", "left ", "above", "below", "upright", "level", "0", "right,left", "sides")
WRONG_PANES = (-1, -5, 5, 60, BIG, -BIG)
# A pane between two columns of three, whose ends stand across from one another.
BETWEEN = [(0, 0, 1, 1), (0, 1, 1, 2), (0, 2, 1, 3), (1, 0, 3, 3), (3, 0, 4, 1), (3, 1, 4, 2), (3, 2, 4, 3)]


def slow_alone(layout, pane):
    """Return the sides at which a pane is alone, of the segments of a small desk, found square by square."""
    found = []
    for segment in slow_lines(layout):
        ahead, behind = slow_along(layout, segment)
        found += [("right" if segment[0] == "upright" else "bottom")] * (ahead == [pane])
        found += [("left" if segment[0] == "upright" else "top")] * (behind == [pane])
    return [side for side in SIDES if side in found]


def slow_closed(layout, pane, side):
    """Return the panes of a small desk when each square of a pane goes to what lies beyond its side there."""
    owner = owners(layout)
    x0, y0, x1, y1 = layout[pane]
    rooms = {other: [] for other in range(len(layout)) if other != pane}
    for x, y in owner:
        beyond = {"left": (x0 - 1, y), "right": (x1, y), "top": (x, y0 - 1), "bottom": (x, y1)}[side]
        rooms[owner[beyond if owner[x, y] == pane else (x, y)]].append((x, y))
    panes = []
    for squares in rooms.values():
        xs, ys = [x for x, _ in squares], [y for _, y in squares]
        panes.append((min(xs), min(ys), max(xs) + 1, max(ys) + 1))
        assert len(squares) == (max(xs) + 1 - min(xs)) * (max(ys) + 1 - min(ys))
    return panes


def without(row, pane):
    """Return a row of names without one, the later ones renamed."""
    return [other - (other > pane) for other in row if other != pane]


class InterfaceTest(unittest.TestCase):
    def test_functions_and_arguments(self):
        assert_interface(self, closing, {
            "alone_sides": ["plan", "pane"], "open_sides": ["layout", "pane"],
            "closed_layout": ["layout", "pane", "side"], "closed_plan": ["plan", "pane"], "middle_panes": ["plan"]})

    def test_equal_calls(self):
        for plan in PLANS:
            assert_steady(self, middle_panes, [plan], ["plan"])
            for pane in range(0, len(plan), 7):
                assert_steady(self, alone_sides, [plan, pane], ["plan", "pane"])
                if alone_sides(plan, pane):
                    assert_steady(self, closed_plan, [plan, pane], ["plan", "pane"])
        for layout in LAYOUTS:
            for pane in range(0, len(layout), 7):
                assert_steady(self, open_sides, [layout, pane], ["layout", "pane"])
        assert_steady(self, closed_layout, [P, 0, "bottom"], ["layout", "pane", "side"])
        assert_steady(self, closed_layout, [strip(60), 7, "left"], ["layout", "pane", "side"])


class AloneSidesTest(unittest.TestCase):
    def test_plans(self):
        self.assertEqual(alone_sides([0], 0), [])
        self.assertEqual([alone_sides([0, 1], pane) for pane in (0, 1)], [["right"], ["left"]])
        self.assertEqual([alone_sides([1, 0], pane) for pane in (0, 1)], [["bottom"], ["top"]])
        # The panes of P in the falling row: 0, 3, 4, 1, 2.
        self.assertEqual([alone_sides(P_PLAN, pane) for pane in range(5)],
                         [["bottom"], ["right"], [], ["left"], ["top"]])
        self.assertEqual([alone_sides(list(range(60)), pane) for pane in (0, 30, 59)],
                         [["right"], ["left", "right"], ["left"]])
        self.assertEqual(alone_sides(list(range(59, -1, -1)), 30), ["top", "bottom"])

    def test_two_sides_of_one_pane(self):
        # Two panes at each side of the one in the middle.
        layout = [(0, 0, 1, 3), (0, 3, 1, 6), (1, 0, 2, 1), (2, 0, 5, 1), (1, 1, 5, 4), (1, 4, 3, 6), (3, 4, 5, 6),
                  (5, 0, 6, 2), (5, 2, 6, 6)]
        self.assertEqual(open_sides(layout, 4), ["top", "bottom"])
        self.assertEqual(open_sides(turned(layout), 4), ["left", "right"])
        for panes in (layout, turned(layout), CUT, SHIFTED):
            for pane in range(len(panes)):
                self.assertEqual(open_sides(panes, pane), slow_alone(panes, pane))

    def test_as_in_the_drawn_layout(self):
        for plan in [plan for many in range(1, 7) for plan in all_plans(many)] + [mixed_plan(60, 3)]:
            layout = drawn_layout(plan)
            for pane in range(0, len(plan), 1 + len(plan) // 20):
                self.assertEqual(alone_sides(plan, pane), slow_alone(layout, pane), repr((plan, pane)))
                self.assertEqual(open_sides(layout, pane), alone_sides(plan, pane))

    def test_against_segments(self):
        layout = mixed(60, 4)
        for pane in range(60):
            found = []
            for side in SIDES:
                segment = segment_at(layout, pane, side)
                if segment is not None:
                    ahead, behind = panes_along(layout, segment)
                    found += [side] * ([pane] == (behind if side in ("left", "top") else ahead))
            self.assertEqual(open_sides(layout, pane), found)

    def test_wrong_arguments(self):
        for pane in (0, -1, BIG):
            assert_rejects_plans(self, lambda thing: alone_sides(thing, pane))
            assert_rejects_layouts(self, lambda thing: open_sides(thing, pane))
        for pane in WRONG_PANES:
            assert_rejects(self, lambda: alone_sides(P_PLAN, pane), InvalidPane)
            assert_rejects(self, lambda: open_sides(P, pane), InvalidPane)
        assert_rejects(self, lambda: alone_sides([0], 1), InvalidPane)
        assert_rejects(self, lambda: open_sides(ONE, 1), InvalidPane)


class OpenSidesTest(unittest.TestCase):
    def test_layouts(self):
        self.assertEqual(open_sides(ONE, 0), [])
        self.assertEqual([open_sides(BESIDE, pane) for pane in (0, 1)], [["right"], ["left"]])
        self.assertEqual([open_sides(STACKED, pane) for pane in (0, 1)], [["bottom"], ["top"]])
        self.assertEqual([open_sides(P, pane) for pane in range(5)], [["bottom"], ["left"], ["top"], ["right"], []])
        self.assertEqual(open_sides(scaled(P, 10 ** 29), 3), ["right"])
        self.assertEqual([open_sides(SHIFTED, pane) for pane in range(4)], [["right"], ["left"], ["right"], ["left"]])

    def test_where_four_panes_would_meet(self):
        self.assertEqual(open_sides(BETWEEN, 3), ["left", "right"])
        self.assertEqual(open_sides(turned(BETWEEN), 3), ["top", "bottom"])

    def test_small_layouts(self):
        for layout in all_layouts(3, 3, 9) + all_layouts(4, 3, 6):
            names = falling_row(layout)
            for pane in range(len(layout)):
                self.assertEqual(open_sides(layout, pane), slow_alone(layout, pane), repr((layout, pane)))
                self.assertEqual(open_sides(layout, pane), alone_sides(plan_of(layout), names.index(pane)))


class ClosedLayoutTest(unittest.TestCase):
    def test_layouts(self):
        self.assertEqual(closed_layout(BESIDE, 0, "right"), [(0, 0, 5, 3)])
        self.assertEqual(closed_layout(BESIDE, 1, "left"), [(0, 0, 5, 3)])
        self.assertEqual(closed_layout(STACKED, 0, "bottom"), [(0, 0, 3, 5)])
        self.assertEqual(closed_layout(STACKED, 1, "top"), [(0, 0, 3, 5)])
        # The panes left keep their sequence.
        self.assertEqual(closed_layout(P, 0, "bottom"), [(2, 0, 3, 2), (1, 2, 3, 3), (0, 0, 1, 3), (1, 0, 2, 2)])
        self.assertEqual(closed_layout(CUT, 0, "right"), [(0, 0, 2, 2), (2, 0, 5, 2), (0, 2, 5, 4)])
        self.assertEqual(closed_layout(CUT, 1, "right"), [(0, 0, 1, 4), (1, 0, 5, 2), (1, 2, 5, 4)])
        self.assertEqual(closed_layout(scaled(BESIDE, 10 ** 29), 1, "left"), scaled([(0, 0, 5, 3)], 10 ** 29))

    def check_closings(self, layout):
        alone = [slow_alone(layout, pane) for pane in range(len(layout))]
        for pane, side in itertools.product(range(len(layout)), SIDES):
            if side not in alone[pane]:
                assert_rejects(self, lambda: closed_layout(layout, pane, side), NotAlone, repr((layout, pane, side)))
                continue
            expected = slow_closed(layout, pane, side)
            if four_meet(expected):
                wrong = assert_rejects(self, lambda: closed_layout(layout, pane, side), Meeting)
                self.assertEqual((wrong.x, wrong.y), least_meeting(expected))
                continue
            found = closed_layout(layout, pane, side)
            self.assertEqual(found, expected, repr((layout, pane, side)))
            self.assertIs(is_layout(found), True)
            self.assertEqual(falling_row(found), without(falling_row(layout), pane))
            self.assertEqual(rising_row(found), without(rising_row(layout), pane))
            self.assertEqual(plan_of(found), closed_plan(plan_of(layout), falling_row(layout).index(pane)))

    def test_all_sides_of_small_layouts(self):
        for layout in [P, CUT, SHIFTED, SHIFTED_BACK, BETWEEN, turned(BETWEEN)] + all_layouts(3, 3, 9):
            self.check_closings(layout)
        for layout in all_layouts(4, 4, 5)[::5]:
            self.check_closings(layout)

    def test_what_is_left_lies_as_before(self):
        for layout in (mixed(12, 1), BETWEEN):
            ways = slow_ways(layout)
            for pane in range(len(layout)):
                for side in open_sides(layout, pane):
                    try:
                        left = closed_layout(layout, pane, side)
                    except Meeting:
                        continue
                    names = [other for other in range(len(layout)) if other != pane]
                    for one, other in itertools.permutations(range(len(left)), 2):
                        self.assertEqual([way_of(left, one, other)], ways[names[one], names[other]])

    def test_meetings(self):
        cases = [(BETWEEN, "left", (3, 1)), (BETWEEN, "right", (1, 1)), (turned(BETWEEN), "top", (1, 3)),
                 (turned(BETWEEN), "bottom", (1, 1)), (scaled(BETWEEN, 10 ** 29), "left", (3 * 10 ** 29, 10 ** 29))]
        for layout, side, point in cases:
            wrong = assert_rejects(self, lambda: closed_layout(layout, 3, side), Meeting)
            self.assertEqual((wrong.x, wrong.y), point)
            self.assertEqual([wrong.x.__class__, wrong.y.__class__], [int, int])
        # Only the lower two ends stand across from one another, and the panes are named backwards.
        layout = [(0, 0, 1, 2), (0, 2, 1, 6), (0, 6, 1, 8), (1, 0, 3, 8), (3, 0, 4, 3), (3, 3, 4, 6), (3, 6, 4, 8)]
        for panes, pane in ((layout, 3), (layout[::-1], 3)):
            wrong = assert_rejects(self, lambda: closed_layout(panes, pane, "right"), Meeting)
            self.assertEqual((wrong.x, wrong.y), (1, 6))

    def test_sixty_panes(self):
        self.assertEqual(closed_layout(strip(60), 59, "left"), strip(58) + [(58, 0, 60, 1)])
        self.assertEqual(closed_layout(strip(60), 0, "right")[:2], [(0, 0, 2, 1), (2, 0, 3, 1)])
        self.assertEqual(closed_layout(tower(60), 0, "bottom")[:2], [(0, 0, 1, 2), (0, 2, 1, 3)])
        self.check_closings(mixed(60, 3))

    def test_one_after_the_other(self):
        for layout in (P, mixed(12, 1), mixed(30, 2), mixed(60, 3), mixed(60, 4), strip(60), tower(60)):
            panes = layout
            while len(panes) > 1:
                plan, names = plan_of(panes), falling_row(panes)
                for pane, side in itertools.product(range(len(panes)), SIDES):
                    if side not in open_sides(panes, pane):
                        continue
                    try:
                        left = closed_layout(panes, pane, side)
                        break
                    except Meeting:
                        continue
                self.assertEqual(len(left), len(panes) - 1)
                self.assertIs(is_layout(left), True)
                self.assertEqual(plan_of(left), closed_plan(plan, names.index(pane)))
                panes = left
            self.assertEqual(panes, [(0, 0, max(pane[2] for pane in layout), max(pane[3] for pane in layout))])

    def test_not_alone(self):
        for side in SIDES:
            assert_rejects(self, lambda: closed_layout(ONE, 0, side), NotAlone)
            assert_rejects(self, lambda: closed_layout(P, 4, side), NotAlone)
        # At the border, and beside another pane.
        for pane, side in ((0, "left"), (0, "top"), (0, "right"), (1, "right"), (2, "bottom"), (3, "left"), (3, "top")):
            assert_rejects(self, lambda: closed_layout(P, pane, side), NotAlone)

    def test_wrong_arguments(self):
        for pane, side in ((0, "bottom"), (-1, "nowhere"), (BIG, "left")):
            assert_rejects_layouts(self, lambda thing: closed_layout(thing, pane, side))
        for pane in WRONG_PANES:
            for side in ("left", "bottom", "nowhere"):
                assert_rejects(self, lambda: closed_layout(P, pane, side), InvalidPane)
        for word in WRONG_WORDS:
            for pane in (0, 4):
                assert_rejects(self, lambda: closed_layout(P, pane, word), InvalidWord)
            assert_rejects(self, lambda: closed_layout(ONE, 0, word), InvalidWord)
            assert_rejects(self, lambda: closed_layout(BETWEEN, 3, word), InvalidWord)


class ClosedPlanTest(unittest.TestCase):
    def test_plans(self):
        self.assertEqual(closed_plan([0, 1], 0), [0])
        self.assertEqual(closed_plan([1, 0], 1), [0])
        self.assertEqual(closed_plan(P_PLAN, 0), [0, 3, 1, 2])
        self.assertEqual(closed_plan(list(range(60)), 30), list(range(59)))

    def test_against_the_rows_without_the_pane(self):
        for plan in [plan for many in range(2, 8) for plan in all_plans(many)] + [mixed_plan(60, 3), mixed_plan(30, 2)]:
            for pane in range(len(plan)):
                left = without(plan, pane)
                if is_plan(left):
                    self.assertEqual(closed_plan(plan, pane), left)
                    self.assertNotEqual(alone_sides(plan, pane), [])
                else:
                    assert_rejects(self, lambda: closed_plan(plan, pane), InvalidPane, repr((plan, pane)))
                    self.assertEqual(alone_sides(plan, pane), [])

    def test_wrong_arguments(self):
        assert_rejects(self, lambda: closed_plan([0], 0), InvalidPane)
        assert_rejects(self, lambda: closed_plan(P_PLAN, 2), InvalidPane)
        for pane in WRONG_PANES:
            assert_rejects(self, lambda: closed_plan(P_PLAN, pane), InvalidPane)
        for pane in (0, -1, BIG):
            assert_rejects_plans(self, lambda thing: closed_plan(thing, pane))


class MiddlePanesTest(unittest.TestCase):
    def test_plans(self):
        self.assertEqual(middle_panes([0]), [])
        self.assertEqual(middle_panes([0, 1]), [])
        self.assertEqual(middle_panes(P_PLAN), [2])
        self.assertEqual(middle_panes([pane + 4 for pane in P_PLAN] + [3, 2, 1, 0]), [6])
        self.assertEqual(middle_panes(P_PLAN + [pane + 5 for pane in P_PLAN]), [2, 7])
        self.assertEqual(middle_panes(list(range(60))), [])

    def test_against_alone_sides(self):
        for plan in [plan for many in range(2, 8) for plan in all_plans(many)] + PLANS[1:]:
            found = [pane for pane in range(len(plan)) if not alone_sides(plan, pane)]
            self.assertEqual(middle_panes(plan), found, repr(plan))
            self.assertLess(len(found), len(plan))

    def test_wrong_plans(self):
        assert_rejects_plans(self, middle_panes)


if __name__ == "__main__":
    unittest.main()
