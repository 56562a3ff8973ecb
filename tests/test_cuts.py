"""Tests of paneplans.cuts: promise 11, with 2 and 4 (R5)."""

import itertools
import unittest

from desks import (
    CUT, LAYOUTS, NO_LISTS, ONE, P, SHIFTED, all_layouts, assert_interface, assert_rejects_layouts, assert_steady,
    deep, mixed, scaled, strip, tower)
from paneplans import cuts
from paneplans.cuts import bad_four, cut_tree, pinwheel_in, shows_pinwheel, shows_tree
from paneplans.errors import Meeting
from paneplans.layouts import segments_of
from paneplans.plans import drawn_layout, way_in
from paneplans.relations import plan_of
from rows import P_PLAN, PLANS, all_plans, assert_rejects_plans, mixed_plan, nested, slow_four

TURNED = [3, 0, 2, 4, 1]
P_RING = [("level", 1, 0, 2), ("upright", 2, 0, 2), ("level", 2, 1, 3), ("upright", 1, 1, 3)]


def slow_tree(layout, panes):
    """Return the tree of some panes of a layout, found by cutting wherever no pane is cut, or None."""
    if len(panes) == 1:
        return panes[0]
    for kind, low, high in (("left", 0, 2), ("above", 1, 3)):
        ends = sorted({layout[pane][high] for pane in panes})
        whole = [end for end in ends if not any(layout[pane][low] < end < layout[pane][high] for pane in panes)]
        if len(whole) > 1:
            starts = [min(layout[pane][low] for pane in panes)] + whole
            parts = [[pane for pane in panes if start <= layout[pane][low] and layout[pane][high] <= end]
                     for start, end in zip(starts, whole)]
            trees = [slow_tree(layout, part) for part in parts]
            return None if None in trees else (kind, *trees)
    return None


def ends_at(segment, other):
    """Tell whether a segment ends at another one."""
    kind, place, first, last = segment
    other_kind, other_place, other_first, other_last = other
    return kind != other_kind and other_place in (first, last) and other_first <= place <= other_last


def is_ring(layout, thing):
    """Tell whether a list of segments of a layout is a ring of four."""
    known = all(segment in segments_of(layout) for segment in thing)
    return known and len(thing) == 4 and all(map(ends_at, thing, thing[1:] + thing[:1]))


def depth(tree):
    """Return how deep a tree is nested."""
    return 1 + max(depth(part) for part in tree[1:]) if isinstance(tree, tuple) else 0


def parts_of(tree):
    """Return all tuples in a tree."""
    return [tree] + [part for inner in tree[1:] for part in parts_of(inner)] if isinstance(tree, tuple) else []


def leaves(tree):
    """Return the panes of a tree."""
    return [pane for part in tree[1:] for pane in leaves(part)] if isinstance(tree, tuple) else [tree]


class InterfaceTest(unittest.TestCase):
    def test_functions_and_arguments(self):
        assert_interface(self, cuts, {
            "cut_tree": ["plan"], "shows_tree": ["plan", "thing"], "bad_four": ["plan"], "pinwheel_in": ["layout"],
            "shows_pinwheel": ["layout", "thing"]})

    def test_equal_calls(self):
        for plan in PLANS:
            assert_steady(self, cut_tree, [plan], ["plan"])
            assert_steady(self, bad_four, [plan], ["plan"])
            for thing in (None, 0, [plan], cut_tree(plan)):
                assert_steady(self, shows_tree, [plan, thing], ["plan", "thing"])
        for layout in LAYOUTS:
            assert_steady(self, pinwheel_in, [layout], ["layout"])
            for thing in (None, P_RING, [layout], pinwheel_in(layout)):
                assert_steady(self, shows_pinwheel, [layout, thing], ["layout", "thing"])


class CutTreeTest(unittest.TestCase):
    def test_trees(self):
        trees = [([0], 0), ([0, 1], ("left", 0, 1)), ([1, 0], ("above", 0, 1)), ([0, 1, 2], ("left", 0, 1, 2)),
                 ([2, 1, 0], ("above", 0, 1, 2)), ([0, 2, 1], ("left", 0, ("above", 1, 2))),
                 ([1, 0, 2], ("left", ("above", 0, 1), 2)), ([2, 0, 1], ("above", ("left", 0, 1), 2)),
                 ([1, 2, 0], ("above", 0, ("left", 1, 2))), ([2, 3, 0, 1], ("above", ("left", 0, 1), ("left", 2, 3))),
                 ([0, 3, 1, 2], ("left", 0, ("above", ("left", 1, 2), 3))),
                 ([1, 0, 2, 4, 3], ("left", ("above", 0, 1), 2, ("above", 3, 4))),
                 (plan_of(CUT), ("left", 0, ("above", ("left", 1, 2), 3))),
                 (list(range(60)), ("left", *range(60))), (list(range(59, -1, -1)), ("above", *range(60)))]
        for plan, tree in trees:
            self.assertEqual(cut_tree(plan), tree)
            self.assertEqual(cut_tree(plan).__class__, tree.__class__)

    def test_none(self):
        for plan in (P_PLAN, TURNED, [0] + [pane + 1 for pane in P_PLAN], [5] + P_PLAN, P_PLAN + [5],
                     [pane + 1 for pane in TURNED] + [0], plan_of(mixed(60, 3)), mixed_plan(60, 4)):
            self.assertIsNone(cut_tree(plan), repr(plan))

    def test_against_whole_cuts(self):
        for many in range(1, 7):
            for plan in all_plans(many):
                self.assertEqual(cut_tree(plan), slow_tree(drawn_layout(plan), list(range(many))), repr(plan))
        for seed in range(60):
            plan = mixed_plan(9, seed)
            self.assertEqual(cut_tree(plan), slow_tree(drawn_layout(plan), list(range(9))), repr(plan))

    def test_deepest_trees(self):
        for plan in [nested(60, first, inside) for first in (True, False) for inside in (True, False)]:
            tree = cut_tree(plan)
            self.assertEqual(depth(tree), 59)
            self.assertEqual(tree, slow_tree(drawn_layout(plan), list(range(60))))
            self.assertIs(shows_tree(plan, tree), True)

    def test_no_kind_within_itself(self):
        plans = [plan for plan in PLANS + all_plans(6) if cut_tree(plan) is not None]
        for plan in plans:
            tree = cut_tree(plan)
            self.assertEqual(sorted(leaves(tree)), list(range(len(plan))))
            for part in parts_of(tree):
                self.assertIn(part[0], ("left", "above"))
                self.assertGreaterEqual(len(part), 3)
                self.assertNotIn(part[0], [inner[0] for inner in part[1:] if isinstance(inner, tuple)])
                for one, other in itertools.pairwise(part[1:]):
                    for first, second in itertools.product(leaves(one), leaves(other)):
                        self.assertEqual(way_in(plan, first, second), part[0])

    def test_wrong_plans(self):
        assert_rejects_plans(self, cut_tree)


class ShowsTreeTest(unittest.TestCase):
    def test_trees(self):
        for plan in PLANS + all_plans(5):
            self.assertIs(shows_tree(plan, cut_tree(plan)), cut_tree(plan) is not None)

    def test_other_trees(self):
        for many in range(1, 5):
            trees = [cut_tree(plan) for plan in all_plans(many)]
            for plan, (at, tree) in itertools.product(all_plans(many), enumerate(trees)):
                self.assertIs(shows_tree(plan, tree), plan == all_plans(many)[at])

    def test_any_objects(self):
        plan = [1, 0, 2, 4, 3]
        self.assertIs(shows_tree(plan, ("left", ("above", 0, 1), 2, ("above", 3, 4))), True)
        things = NO_LISTS + [
            ["left", ("above", 0, 1), 2, ("above", 3, 4)], ("left", ["above", 0, 1], 2, ("above", 3, 4)),
            ("left", ("above", 0, True), 2, ("above", 3, 4)), ("left", ("above", False, 1), 2, ("above", 3, 4)),
            ("left", ("above", 0, 1), "2", ("above", 3, 4)), ("left", ("above", 0, 1), (2,), ("above", 3, 4)),
            ("left", ("above", 0, 1), None, ("above", 3, 4)), ("above", ("above", 0, 1), 2, ("above", 3, 4)),
            ("left", ("left", 0, 1), 2, ("above", 3, 4)), ("left", ("left", ("above", 0, 1), 2), ("above", 3, 4)),
            ("left", ("above", 0, 1), ("left", 2, ("above", 3, 4))), ("left", ("above", 0, 1), 2, ("above", 4, 3)),
            ("left", ("above", 3, 4), 2, ("above", 0, 1)), ("left", ("above", 0, 1), 2, ("above", 3, 4), 5),
            ("left", ("above", 0, 1), 2), ("left", ("above", 0, 1), 2, 3, 4), ("left", ("above", 0), 2, ("above", 3, 4)),
            (["left"], ("above", 0, 1), 2, ("above", 3, 4)), ({}, ("above", 0, 1), 2, ("above", 3, 4)),
            ("left",), ("left", "above", 2, "above"), (("left", ("above", 0, 1), 2, ("above", 3, 4)),),
            (("above", 0, 1), "left", 2, ("above", 3, 4)), (None, None, None, None), ("Left", 0, 1, 2), (1, 2, 3, 4),
            [("left", ("above", 0, 1), 2, ("above", 3, 4))], plan, deep(("left", 0, 1), 18), ("left", 0, {"1": 1}),
            ("left", ("above", 0, 1), Meeting(2, 2), ("above", 3, 4)), ("left", ("above", 0, 1), 2, ("above", 3, [4])),
            ("left", ("above", 0, -4), 2, ("above", 3, 4)), ("upright", ("level", 0, 1), 2, ("level", 3, 4))]
        for thing in things:
            self.assertIs(shows_tree(plan, thing), False, repr(thing))

    def test_one_pane(self):
        self.assertIs(shows_tree([0], 0), True)
        for thing in (False, None, 1, "0", (0,), [0], ("left", 0), ("above", 0), ("left",), (), ("left", 0, 0)):
            self.assertIs(shows_tree([0], thing), False, repr(thing))
        self.assertIs(shows_tree([0, 1], ("left", 0, 1)), True)
        for thing in (("left", False, True), ("left", 0, True), ("left", False, 1), ("left", 1, 0), ("above", 0, 1)):
            self.assertIs(shows_tree([0, 1], thing), False, repr(thing))

    def test_what_cannot_be_cut(self):
        for thing in (None, 0, False, (), [], ("left", 0, 1, 2, 3, 4), ("left", 0, None), P_PLAN, "None"):
            self.assertIs(shows_tree(P_PLAN, thing), False, repr(thing))

    def test_deep_things(self):
        tree = 59
        for pane in range(58, -1, -1):
            tree = ("left" if pane % 2 == 0 else "above", pane, tree)
        self.assertIs(shows_tree(nested(60, inside=False), tree), True)
        self.assertIs(shows_tree(nested(60, first=False, inside=False), tree), False)
        self.assertIs(shows_tree(nested(59, inside=False), tree), False)
        self.assertIs(shows_tree([0], tree), False)
        wrong = True
        for pane in range(58, -1, -1):
            wrong = ("left" if pane % 2 == 0 else "above", pane, wrong)
        self.assertIs(shows_tree(nested(60, inside=False), wrong), False)
        for _ in range(500):
            tree = ("left", 0, tree)
        self.assertIs(shows_tree(nested(60, inside=False), tree), False)

    def test_the_plan_is_checked_first(self):
        assert_rejects_plans(self, lambda thing: shows_tree(thing, 0))
        assert_rejects_plans(self, lambda thing: shows_tree(thing, thing))
        assert_rejects_plans(self, lambda thing: shows_tree(thing, None))


class BadFourTest(unittest.TestCase):
    def test_fours(self):
        self.assertEqual(bad_four(P_PLAN), (0, 1, 3, 4))
        self.assertEqual(bad_four(TURNED), (0, 1, 3, 4))
        self.assertEqual(bad_four([0] + [pane + 1 for pane in P_PLAN]), (1, 2, 4, 5))
        self.assertEqual(bad_four([5] + P_PLAN), (1, 2, 4, 5))
        self.assertIsNone(bad_four([0]))
        self.assertIsNone(bad_four(list(range(60))))
        self.assertIsNone(bad_four(nested(60)))
        self.assertEqual(bad_four(list(range(55)) + [pane + 55 for pane in P_PLAN]), (55, 56, 58, 59))
        self.assertEqual(bad_four([pane + 55 for pane in TURNED] + list(range(54, -1, -1))), (0, 1, 3, 4))

    def test_all_small_plans(self):
        several = 0
        for many in range(1, 8):
            for plan in all_plans(many):
                self.assertEqual(bad_four(plan), slow_four(plan), repr(plan))
                self.assertEqual(bad_four(plan) is None, cut_tree(plan) is not None)
                several += plan[1:4] != [4, 2, 0] and bad_four(plan) is not None
        self.assertGreater(several, 100)

    def test_long_plans(self):
        for many, seed in [(9, seed) for seed in range(30)] + [(25, 1), (25, 2), (40, 3), (60, 4)]:
            plan = mixed_plan(many, seed)
            self.assertEqual(bad_four(plan), slow_four(plan))
            self.assertIn(bad_four(plan).__class__, (tuple, None.__class__))

    def test_wrong_plans(self):
        assert_rejects_plans(self, bad_four)


class PinwheelTest(unittest.TestCase):
    def check_rings(self, layout):
        ring = pinwheel_in(layout)
        self.assertEqual(ring is None, cut_tree(plan_of(layout)) is not None, repr(layout))
        if ring is not None:
            self.assertEqual([ring.__class__, len(ring)], [list, 4])
            self.assertIs(is_ring(layout, ring), True)
            for turns in range(4):
                self.assertIs(shows_pinwheel(layout, ring[turns:] + ring[:turns]), True)
            self.assertIs(shows_pinwheel(layout, ring[::-1]), False)

    def test_the_pinwheel(self):
        self.assertIn(pinwheel_in(P), [P_RING[turns:] + P_RING[:turns] for turns in range(4)])
        mirrored = [(3 - x1, y0, 3 - x0, y1) for x0, y0, x1, y1 in P]
        self.assertIs(is_ring(mirrored, pinwheel_in(mirrored)), True)
        self.check_rings(mirrored)
        self.check_rings(scaled(P, 10 ** 29))

    def test_none(self):
        for layout in (ONE, CUT, SHIFTED, strip(60), tower(60), drawn_layout(nested(60))):
            self.assertIsNone(pinwheel_in(layout))

    def test_layouts(self):
        for layout in LAYOUTS + all_layouts(4, 3, 12) + all_layouts(4, 4, 6):
            self.check_rings(layout)

    def test_a_pinwheel_in_a_pinwheel(self):
        inner = [(x0 + 3, y0 + 3, x1 + 3, y1 + 3) for x0, y0, x1, y1 in P]
        outer = [(0, 0, 6, 3), (6, 0, 9, 6), (3, 6, 9, 9), (0, 3, 3, 9)]
        for layout in (outer + inner, inner + outer):
            self.check_rings(layout)
            rings = [thing for thing in itertools.permutations(segments_of(layout), 4) if is_ring(layout, list(thing))]
            self.assertEqual(len(rings), 8)
            for ring in rings:
                self.assertIs(shows_pinwheel(layout, list(ring)), True)

    def test_wrong_layouts(self):
        assert_rejects_layouts(self, pinwheel_in)
        assert_rejects_layouts(self, lambda thing: shows_pinwheel(thing, P_RING))
        assert_rejects_layouts(self, lambda thing: shows_pinwheel(thing, None))


class ShowsPinwheelTest(unittest.TestCase):
    def test_all_lists_of_four(self):
        for layout in [P, CUT, SHIFTED] + [layout for layout in all_layouts(4, 4, 6) if pinwheel_in(layout)][:20]:
            for thing in itertools.product(segments_of(layout), repeat=4):
                self.assertIs(shows_pinwheel(layout, list(thing)), is_ring(layout, list(thing)), repr(thing))

    def test_any_objects(self):
        self.assertIs(shows_pinwheel(P, P_RING), True)
        one, two, three, four = P_RING
        things = NO_LISTS + [
            tuple(P_RING), [], P_RING[:3], P_RING * 2, P_RING + [one], [P_RING], [one, two, three, list(four)],
            [one, two, three, None], [one, two, three, 4], [one, two, three, "upright"], [one, two, three, ()],
            [one, two, three, ("upright", True, True, 3)], [one, two, three, ("upright", 1, True, 3)],
            [one, two, three, ("upright", True, 1, 3)], [("level", 1, False, 2), two, three, four],
            [one, two, three, ("upright", 1, 1)], [one, two, three, ("upright", 1, 1, 3, 3)],
            [one, two, three, (["upright"], 1, 1, 3)], [one, two, three, ({}, 1, 1, 3)],
            [one, two, three, (None, 1, 1, 3)], [one, two, three, ("upright", "1", 1, 3)],
            [one, two, three, ("upright", [1], 1, 3)], [one, two, three, ("level", 1, 1, 3)],
            [one, two, three, ("upright", 1, 0, 3)], [one, two, three, (Meeting(1, 1), 1, 1, 3)],
            [one, two, three, Meeting(1, 1)], [[one, two, three, four]] * 4, {"0": one}, deep(one, 15), P, [{}] * 4,
            [[]] * 4, [0, 1, 2, 3], [one, one, one, one], [one, two, one, two], [one, three, two, four]]
        for thing in things:
            self.assertIs(shows_pinwheel(P, thing), False, repr(thing))
        self.assertIs(shows_pinwheel(ONE, P_RING), False)
        self.assertIs(shows_pinwheel(ONE, [None] * 4), False)
        self.assertIs(shows_pinwheel(scaled(P, 2), P_RING), False)


if __name__ == "__main__":
    unittest.main()
