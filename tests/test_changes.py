"""Tests of paneplans.changes: promise 13, with 2, 3 and 4."""

import itertools
import unittest

from desks import BIG, assert_interface, assert_rejects, assert_steady, mixed, scaled, slow_ways
from paneplans import changes
from paneplans.changes import merged_plan, mirrored_plan, split_plan, swung_plan, turned_plans, whole_pairs
from paneplans.errors import InvalidPane, InvalidPlan, InvalidWord, NotNeighbours
from paneplans.layouts import is_layout, panes_along, segment_at
from paneplans.plans import drawn_layout, is_plan, way_in
from paneplans.relations import falling_row, plan_of, rising_row
from rows import P_PLAN, PLANS, all_plans, assert_rejects_plans, mixed_plan

WAYS = ("sides", "ends", "corners")
KINDS = ("left", "above")
WRONG_PANES = (-1, -5, 5, 60, BIG, -BIG)
WRONG_WORDS = ("", "right", "below", "Left", "left ", "top", "upright", "level", "side", "Sides", "corner", "0")
SMALL = [plan for many in range(1, 7) for plan in all_plans(many)]


def slow_pairs(plan):
    """Return the pairs of panes that are alone at both sides of one segment of the drawn layout."""
    layout = drawn_layout(plan)
    found = []
    for pane in range(len(plan)):
        for side in ("right", "bottom"):
            segment = segment_at(layout, pane, side)
            if segment is not None:
                ahead, behind = panes_along(layout, segment)
                found += [(pane, behind[0])] * (len(ahead) == len(behind) == 1)
    return sorted(found)


def merged(layout, pane, other):
    """Return a layout in which two panes that lie at one whole segment are one."""
    x0, y0, _, _ = layout[pane]
    _, _, x1, y1 = layout[other]
    return [(x0, y0, x1, y1) if index == pane else corners for index, corners in enumerate(layout) if index != other]


def split(layout, pane, kind):
    """Return a layout with wide panes in which one is two, so that no four panes meet."""
    wide = scaled(layout, 2)
    x0, y0, x1, y1 = wide[pane]
    parts = ([(x0, y0, x0 + 1, y1), (x0 + 1, y0, x1, y1)] if kind == "left"
             else [(x0, y0, x1, y0 + 1), (x0, y0 + 1, x1, y1)])
    return wide[:pane] + parts + wide[pane + 1:]


def mirrored(layout, way):
    """Return a layout mirrored."""
    width, height = max(pane[2] for pane in layout), max(pane[3] for pane in layout)
    return [{"sides": (width - x1, y0, width - x0, y1), "ends": (x0, height - y1, x1, height - y0),
             "corners": (y0, x0, y1, x1)}[way] for x0, y0, x1, y1 in layout]


def slow_turned(plan):
    """Return all plans of layouts mirrored, by all sequences of up to four mirrors."""
    found = []
    for many in range(5):
        for ways in itertools.product(WAYS, repeat=many):
            layout = drawn_layout(plan)
            for way in ways:
                layout = mirrored(layout, way)
            found.append(plan_of(layout))
    return sorted(map(list, {tuple(other) for other in found}))


class InterfaceTest(unittest.TestCase):
    def test_functions_and_arguments(self):
        assert_interface(self, changes, {
            "whole_pairs": ["plan"], "merged_plan": ["plan", "pane"], "swung_plan": ["plan", "pane"],
            "split_plan": ["plan", "pane", "kind"], "mirrored_plan": ["plan", "way"], "turned_plans": ["plan"]})

    def test_equal_calls(self):
        for plan in PLANS:
            assert_steady(self, whole_pairs, [plan], ["plan"])
            assert_steady(self, turned_plans, [plan], ["plan"])
            for way in WAYS:
                assert_steady(self, mirrored_plan, [plan, way], ["plan", "way"])
            for kind in KINDS:
                if len(plan) < 60:
                    assert_steady(self, split_plan, [plan, 0, kind], ["plan", "pane", "kind"])
            for pane, _ in whole_pairs(plan)[:3]:
                assert_steady(self, merged_plan, [plan, pane], ["plan", "pane"])
                assert_steady(self, swung_plan, [plan, pane], ["plan", "pane"])


class WholePairsTest(unittest.TestCase):
    def test_pairs(self):
        self.assertEqual(whole_pairs([0]), [])
        self.assertEqual(whole_pairs([0, 1]), [(0, 1)])
        self.assertEqual(whole_pairs([1, 0]), [(0, 1)])
        self.assertEqual(whole_pairs(P_PLAN), [])
        self.assertEqual(whole_pairs([2, 3, 0, 1]), [(0, 1), (2, 3)])
        self.assertEqual(whole_pairs([0, 3, 1, 2]), [(1, 2)])
        self.assertEqual(whole_pairs(list(range(60))), [(pane, pane + 1) for pane in range(59)])
        self.assertEqual(whole_pairs(list(range(59, -1, -1))), [(pane, pane + 1) for pane in range(59)])

    def test_against_segments(self):
        for plan in SMALL + PLANS + [mixed_plan(60, seed) for seed in range(5, 9)]:
            self.assertEqual(whole_pairs(plan), slow_pairs(plan), repr(plan))
            both = [(pane, pane + 1) for pane in range(len(plan) - 1)
                    if plan.index(pane) - plan.index(pane + 1) in (1, -1)]
            self.assertEqual(whole_pairs(plan), both)

    def test_wrong_plans(self):
        assert_rejects_plans(self, whole_pairs)


class MergedPlanTest(unittest.TestCase):
    def test_plans(self):
        self.assertEqual(merged_plan([0, 1], 0), [0])
        self.assertEqual(merged_plan([1, 0], 0), [0])
        self.assertEqual(merged_plan([0, 3, 1, 2], 1), [0, 2, 1])
        self.assertEqual(merged_plan([2, 3, 0, 1], 2), [2, 0, 1])
        self.assertEqual(merged_plan(list(range(60)), 58), list(range(59)))

    def test_as_in_layouts(self):
        for plan in SMALL + PLANS:
            for pane, other in whole_pairs(plan):
                layout = merged(drawn_layout(plan), pane, other)
                self.assertIs(is_layout(layout), True)
                found = merged_plan(plan, pane)
                self.assertEqual(found, plan_of(layout))
                self.assertEqual(falling_row(layout), list(range(len(layout))))

    def test_how_panes_lie(self):
        for plan in ([0, 3, 1, 2], [1, 0, 2, 4, 3], mixed_plan(12, 1)):
            for pane, other in whole_pairs(plan):
                ways = slow_ways(merged(drawn_layout(plan), pane, other))
                found = merged_plan(plan, pane)
                for first, second in itertools.permutations(range(len(found)), 2):
                    self.assertEqual([way_in(found, first, second)], ways[first, second])


class SwungPlanTest(unittest.TestCase):
    def test_plans(self):
        self.assertEqual(swung_plan([0, 1], 0), [1, 0])
        self.assertEqual(swung_plan([1, 0], 0), [0, 1])
        self.assertEqual(swung_plan([0, 3, 1, 2], 1), [0, 3, 2, 1])
        self.assertEqual(swung_plan(list(range(60)), 58), list(range(58)) + [59, 58])

    def test_as_in_layouts(self):
        for plan in SMALL + PLANS:
            for pane, other in whole_pairs(plan):
                kind = "above" if way_in(plan, pane, other) == "left" else "left"
                layout = split(merged(drawn_layout(plan), pane, other), pane, kind)
                self.assertIs(is_layout(layout), True)
                found = swung_plan(plan, pane)
                self.assertEqual(found, plan_of(layout))
                self.assertEqual(falling_row(layout), list(range(len(layout))))
                self.assertEqual(swung_plan(found, pane), plan)

    def test_how_panes_lie(self):
        plan = mixed_plan(12, 1)
        self.assertNotEqual(whole_pairs(plan), [])
        for pane, other in whole_pairs(plan):
            found = swung_plan(plan, pane)
            for first, second in itertools.combinations(range(12), 2):
                self.assertEqual(way_in(found, first, second) == way_in(plan, first, second),
                                 (first, second) != (pane, other))


class PairErrorsTest(unittest.TestCase):
    def test_no_neighbours(self):
        for function in (merged_plan, swung_plan):
            for plan in SMALL + PLANS:
                pairs = slow_pairs(plan)
                for pane in range(len(plan)):
                    if (pane, pane + 1) not in pairs:
                        assert_rejects(self, lambda: function(plan, pane), NotNeighbours, repr((plan, pane)))
            # The last pane, also the only one.
            assert_rejects(self, lambda: function([0], 0), NotNeighbours)
            assert_rejects(self, lambda: function([0, 1], 1), NotNeighbours)
            assert_rejects(self, lambda: function(list(range(60)), 59), NotNeighbours)

    def test_wrong_arguments(self):
        for function in (merged_plan, swung_plan):
            for pane in WRONG_PANES:
                assert_rejects(self, lambda: function(P_PLAN, pane), InvalidPane)
                assert_rejects(self, lambda: function([0, 1, 2, 3, 4], pane), InvalidPane)
            assert_rejects(self, lambda: function([0], 1), InvalidPane)
            for pane in (0, -1, BIG):
                assert_rejects_plans(self, lambda thing: function(thing, pane))


class SplitPlanTest(unittest.TestCase):
    def test_plans(self):
        self.assertEqual(split_plan([0], 0, "left"), [0, 1])
        self.assertEqual(split_plan([0], 0, "above"), [1, 0])
        self.assertEqual(split_plan(P_PLAN, 2, "left"), [1, 5, 2, 3, 0, 4])
        self.assertEqual(split_plan(P_PLAN, 4, "above"), [1, 5, 4, 2, 0, 3])
        self.assertEqual(split_plan(list(range(59)), 58, "left"), list(range(60)))

    def test_as_in_layouts(self):
        plans = SMALL + [mixed_plan(59, 1), mixed_plan(30, 2), list(range(59))]
        for plan, kind in itertools.product(plans, KINDS):
            for pane in range(len(plan)):
                layout = split(drawn_layout(plan), pane, kind)
                found = split_plan(plan, pane, kind)
                self.assertEqual(found, plan_of(layout))
                self.assertEqual(falling_row(layout), list(range(len(layout))))
                self.assertEqual(way_in(found, pane, pane + 1), kind)
                self.assertEqual(merged_plan(found, pane), plan)

    def test_how_panes_lie(self):
        for kind, pane in itertools.product(KINDS, range(9)):
            plan = mixed_plan(9, 4)
            ways = slow_ways(split(drawn_layout(plan), pane, kind))
            found = split_plan(plan, pane, kind)
            for first, second in itertools.permutations(range(10), 2):
                self.assertEqual([way_in(found, first, second)], ways[first, second])

    def test_sixty_panes(self):
        for plan, kind in itertools.product((list(range(60)), mixed_plan(60, 3)), KINDS):
            for pane in (0, 30, 59):
                assert_rejects(self, lambda: split_plan(plan, pane, kind), InvalidPlan)

    def test_sixty_panes_and_other_wrong_arguments(self):
        # A plan that is full is itself not valid, so it decides ahead of the pane and the kind.
        for plan, pane in itertools.product((list(range(60)), mixed_plan(60, 3)), (0, 59) + WRONG_PANES):
            for word in KINDS + WRONG_WORDS + WAYS:
                assert_rejects(self, lambda: split_plan(plan, pane, word), InvalidPlan, repr((pane, word)))
        for pane, word in itertools.product((59, 60, -1, BIG), KINDS + WRONG_WORDS):
            assert_rejects(self, lambda: split_plan(list(range(59)), pane, word), InvalidPane, repr((pane, word)))
        for word in WRONG_WORDS:
            assert_rejects(self, lambda: split_plan(list(range(59)), 58, word), InvalidWord, word)

    def test_wrong_arguments(self):
        for pane, kind in ((0, "left"), (-1, "above"), (BIG, "right")):
            assert_rejects_plans(self, lambda thing: split_plan(thing, pane, kind))
        for pane, kind in itertools.product(WRONG_PANES, ("left", "above", "right")):
            assert_rejects(self, lambda: split_plan(P_PLAN, pane, kind), InvalidPane)
        for word in WRONG_WORDS + WAYS:
            assert_rejects(self, lambda: split_plan(P_PLAN, 0, word), InvalidWord, word)


class MirroredPlanTest(unittest.TestCase):
    def test_plans(self):
        for way in WAYS:
            self.assertEqual(mirrored_plan([0], way), [0])
        self.assertEqual([mirrored_plan([0, 1], way) for way in WAYS], [[0, 1], [0, 1], [1, 0]])
        self.assertEqual([mirrored_plan([1, 0], way) for way in WAYS], [[1, 0], [1, 0], [0, 1]])
        # A wide pane, and under it two: mirrored at the ends it is under them, with x and y exchanged at the left.
        self.assertEqual([mirrored_plan([1, 2, 0], way) for way in WAYS], [[1, 2, 0], [2, 0, 1], [0, 2, 1]])
        self.assertEqual([mirrored_plan(P_PLAN, way) for way in WAYS], [[3, 0, 2, 4, 1]] * 3)

    def test_as_in_layouts(self):
        for plan, way in itertools.product(SMALL + PLANS, WAYS):
            layout = mirrored(drawn_layout(plan), way)
            found = mirrored_plan(plan, way)
            self.assertEqual(found, plan_of(layout))
            self.assertIs(is_plan(found), True)
            self.assertEqual(mirrored_plan(found, way), plan)

    def test_as_in_any_layout(self):
        for layout, way in itertools.product((mixed(12, 1), mixed(60, 3)), WAYS):
            self.assertEqual(mirrored_plan(plan_of(layout), way), plan_of(mirrored(layout, way)))

    def test_how_panes_lie(self):
        back = {"left": "right", "right": "left", "above": "below", "below": "above"}
        sides = {"left": "right", "right": "left", "above": "above", "below": "below"}
        ends = {word: back[sides[word]] for word in sides}
        corners = {"left": "above", "right": "below", "above": "left", "below": "right"}
        for plan in (P_PLAN, [1, 2, 0], mixed_plan(12, 1)):
            for way, words in (("sides", sides), ("ends", ends), ("corners", corners)):
                found = mirrored_plan(plan, way)
                layout = mirrored(drawn_layout(plan), way)
                names = falling_row(layout)
                self.assertEqual([names.index(pane) for pane in rising_row(layout)], found)
                for first, second in itertools.permutations(range(len(plan)), 2):
                    self.assertEqual(way_in(found, first, second), words[way_in(plan, names[first], names[second])])

    def test_wrong_arguments(self):
        for way in WAYS + ("", "left"):
            assert_rejects_plans(self, lambda thing: mirrored_plan(thing, way))
        for word in WRONG_WORDS + KINDS:
            assert_rejects(self, lambda: mirrored_plan(P_PLAN, word), InvalidWord, word)


class TurnedPlansTest(unittest.TestCase):
    def test_plans(self):
        self.assertEqual(turned_plans([0]), [[0]])
        self.assertEqual(turned_plans([0, 1]), [[0, 1], [1, 0]])
        self.assertEqual(turned_plans([1, 2, 0]), [[0, 2, 1], [1, 0, 2], [1, 2, 0], [2, 0, 1]])
        self.assertEqual(turned_plans(P_PLAN), [P_PLAN, [3, 0, 2, 4, 1]])

    def test_against_layouts(self):
        for plan in [plan for many in range(1, 6) for plan in all_plans(many)] + [mixed_plan(12, 1)]:
            self.assertEqual(turned_plans(plan), slow_turned(plan), repr(plan))

    def test_the_same_list_for_each_of_them(self):
        for plan in SMALL + PLANS:
            found = turned_plans(plan)
            self.assertIn(plan, found)
            self.assertEqual(found, sorted(found))
            self.assertEqual(len({tuple(other) for other in found}), len(found))
            self.assertIn(len(found), (1, 2, 4, 8))
            for other in found:
                self.assertEqual(turned_plans(other), found)
        self.assertEqual(len(turned_plans(mixed_plan(60, 3))), 8)

    def test_wrong_plans(self):
        assert_rejects_plans(self, turned_plans)


if __name__ == "__main__":
    unittest.main()
