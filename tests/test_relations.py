"""Tests of paneplans.relations: promise 7, with 2, 3 and 4."""

import itertools
import unittest

from desks import (
    BESIDE, BIG, CUT, LAYOUTS, NO_LISTS, ONE, P, PARTED_UPRIGHT, SHIFTED, SHIFTED_BACK, STACKED, STRIP, all_layouts,
    assert_interface, assert_rejects, assert_rejects_layouts, assert_steady, deep, grown, mixed, scaled, slow_steps,
    slow_ways, strip, tower)
from paneplans import relations
from paneplans.errors import InvalidLayout, InvalidPane, Meeting
from paneplans.layouts import touching_pairs
from paneplans.relations import (
    chain_of, falling_row, lie_alike, plan_of, rising_row, same_plan, shows_chain, way_of)

BACK = {"left": "right", "right": "left", "above": "below", "below": "above"}


def all_pairs(layout):
    """Return all pairs of two different panes."""
    return list(itertools.permutations(range(len(layout)), 2))


def is_step(steps, way, first, second):
    """Tell whether a pane lies so to another one at one segment."""
    left, above = steps
    pair = (first, second) if way in ("left", "above") else (second, first)
    return pair in (left if way in ("left", "right") else above)


def has_pattern(row):
    """Tell whether a row has indices that R2 rules out."""
    for i, j, k in itertools.combinations(range(len(row)), 3):
        if k > j + 1 and (row[j + 1] < row[i] < row[k] < row[j] or row[j] < row[k] < row[i] < row[j + 1]):
            return True
    return False


class InterfaceTest(unittest.TestCase):
    def test_functions_and_arguments(self):
        pair = ["layout", "first", "second"]
        assert_interface(self, relations, {
            "way_of": pair, "chain_of": pair, "shows_chain": ["layout", "thing"], "falling_row": ["layout"],
            "rising_row": ["layout"], "plan_of": ["layout"], "lie_alike": ["layout", "other"],
            "same_plan": ["layout", "other"]})

    def test_equal_calls(self):
        for layout in LAYOUTS:
            for function in (falling_row, rising_row, plan_of):
                assert_steady(self, function, [layout], ["layout"])
            for function in (lie_alike, same_plan):
                assert_steady(self, function, [layout, P], ["layout", "other"])
            assert_steady(self, shows_chain, [layout, [0, 1]], ["layout", "thing"])
            if len(layout) > 1:
                for function in (way_of, chain_of):
                    assert_steady(self, function, [layout, 0, 1], ["layout", "first", "second"])


class WrongArgumentsTest(unittest.TestCase):
    def test_each_function_rejects_wrong_layouts(self):
        for function in (falling_row, rising_row, plan_of):
            assert_rejects_layouts(self, function)
        for function in (way_of, chain_of):
            assert_rejects_layouts(self, lambda thing: function(thing, 0, 1))
            assert_rejects_layouts(self, lambda thing: function(thing, -1, -1))
        assert_rejects_layouts(self, lambda thing: shows_chain(thing, [0, 1]))
        assert_rejects_layouts(self, lambda thing: shows_chain(thing, None))

    def test_two_layouts(self):
        for function in (lie_alike, same_plan):
            assert_rejects_layouts(self, lambda thing: function(thing, P))
            assert_rejects_layouts(self, lambda thing: function(P, thing))
            assert_rejects_layouts(self, lambda thing: function(thing, P + [None]))
            wrong = assert_rejects(self, lambda: function(P[:4], [None]), InvalidLayout)
            self.assertIsNone(wrong.pane)

    def test_wrong_panes(self):
        for function in (way_of, chain_of):
            for pane in (-1, -5, 5, 60, BIG, -BIG):
                assert_rejects(self, lambda: function(P, pane, 0), InvalidPane, repr(pane))
                assert_rejects(self, lambda: function(P, 0, pane), InvalidPane, repr(pane))
                assert_rejects(self, lambda: function(P, pane, pane), InvalidPane, repr(pane))
            for pane in range(5):
                assert_rejects(self, lambda: function(P, pane, pane), InvalidPane, repr(pane))
            assert_rejects(self, lambda: function(ONE, 0, 0), InvalidPane)
            assert_rejects(self, lambda: function(ONE, 0, 1), InvalidPane)


class WayOfTest(unittest.TestCase):
    def test_two_panes(self):
        self.assertEqual(way_of(BESIDE, 0, 1), "left")
        self.assertEqual(way_of(BESIDE, 1, 0), "right")
        self.assertEqual(way_of(STACKED, 0, 1), "above")
        self.assertEqual(way_of(STACKED, 1, 0), "below")

    def test_pinwheel(self):
        expected = {(0, 1): "left", (0, 2): "above", (0, 3): "above", (0, 4): "above", (1, 2): "above",
                    (1, 3): "right", (1, 4): "right", (2, 3): "right", (2, 4): "below", (3, 4): "left"}
        for (first, second), way in expected.items():
            self.assertEqual(way_of(P, first, second), way)
            self.assertEqual(way_of(P, second, first), BACK[way])

    def test_panes_that_do_not_touch(self):
        self.assertEqual(way_of(STRIP, 0, 3), "left")
        self.assertNotIn((0, 3), touching_pairs(STRIP))
        # At the two ends of one level segment, and far from each other.
        self.assertEqual(way_of(SHIFTED, 0, 3), "above")
        self.assertEqual(way_of(SHIFTED_BACK, 2, 1), "below")
        self.assertEqual(way_of(PARTED_UPRIGHT, 1, 3), "above")
        self.assertEqual(way_of(CUT, 0, 2), "left")

    def test_exactly_one_way(self):
        for layout in [P, CUT, mixed(30, 2)] + all_layouts(3, 3, 9) + all_layouts(4, 4, 5):
            ways = slow_ways(layout)
            for first, second in all_pairs(layout):
                self.assertEqual([way_of(layout, first, second)], ways[first, second], repr(layout))

    def test_sixty_panes(self):
        layout = mixed(60, 3)
        ways = slow_ways(layout)
        for first, second in [(0, pane) for pane in range(1, 60)] + [(pane, 31) for pane in range(31)]:
            self.assertEqual([way_of(layout, first, second)], ways[first, second])
        self.assertEqual(way_of(strip(60), 0, 59), "left")
        self.assertEqual(way_of(tower(60), 59, 0), "below")

    def test_great_corners(self):
        for first, second in all_pairs(P):
            self.assertEqual(way_of(scaled(P, 10 ** 29), first, second), way_of(P, first, second))


class ChainOfTest(unittest.TestCase):
    def check_chain(self, layout, first, second, steps):
        chain = chain_of(layout, first, second)
        way = way_of(layout, first, second)
        self.assertIsInstance(chain, list)
        self.assertGreaterEqual(len(chain), 2)
        self.assertEqual((chain[0], chain[-1]), (first, second))
        for pane, other in zip(chain, chain[1:]):
            self.assertTrue(is_step(steps, way, pane, other), repr((layout, chain)))
        self.assertIs(shows_chain(layout, chain), True)
        self.assertIs(shows_chain(layout, chain[::-1]), True)

    def test_only_chain(self):
        self.assertEqual(chain_of(BESIDE, 0, 1), [0, 1])
        self.assertEqual(chain_of(STACKED, 1, 0), [1, 0])
        self.assertEqual(chain_of(STRIP, 0, 3), [0, 1, 2, 3])
        self.assertEqual(chain_of(STRIP, 3, 0), [3, 2, 1, 0])
        self.assertEqual(chain_of(strip(60), 0, 59), list(range(60)))
        self.assertEqual(chain_of(P, 0, 2), [0, 4, 2])

    def test_chains(self):
        for layout in [P, CUT, mixed(12, 1), mixed(30, 2)] + all_layouts(3, 3, 9):
            steps = slow_steps(layout)
            for first, second in all_pairs(layout):
                self.check_chain(layout, first, second, steps)

    def test_sixty_panes(self):
        layout = mixed(60, 4)
        steps = slow_steps(layout)
        for pane in range(1, 60):
            self.check_chain(layout, 0, pane, steps)
            self.check_chain(layout, pane, 0, steps)


class ShowsChainTest(unittest.TestCase):
    def test_chains(self):
        for chain in ([0, 4, 2], [2, 4, 0], [0, 3], [0, 4], [3, 4, 1], [1, 4, 3], [3, 2], [0, 1], [1, 2]):
            self.assertIs(shows_chain(P, chain), True, repr(chain))
        self.assertIs(shows_chain(strip(60), list(range(60))), True)
        self.assertIs(shows_chain(strip(60), list(range(59, -1, -1))), True)
        self.assertIs(shows_chain(SHIFTED, [0, 3]), True)

    def test_lists_that_are_no_chains(self):
        # 0 is above 2 and 3 left of 1, but these are not at one segment.
        for thing in ([0, 2], [3, 1], [0, 4, 1], [0, 1, 2], [0, 1, 0], [0, 0], [4, 4], [0], [], [0, 3, 4, 2],
                      [0, 1, 2, 3], [0, 4, 2, 4]):
            self.assertIs(shows_chain(P, thing), False, repr(thing))
        self.assertIs(shows_chain(STRIP, [0, 2]), False)
        self.assertIs(shows_chain(ONE, [0]), False)
        self.assertIs(shows_chain(ONE, [0, 0]), False)
        self.assertIs(shows_chain(STRIP, [0, 1, 2, 3] * 1000), False)

    def test_all_short_lists(self):
        for layout in (P, CUT, SHIFTED, PARTED_UPRIGHT):
            steps = slow_steps(layout)
            for length in (2, 3):
                for thing in itertools.product(range(len(layout)), repeat=length):
                    expected = any(all(is_step(steps, way, *pair) for pair in zip(thing, thing[1:])) for way in BACK)
                    self.assertIs(shows_chain(layout, list(thing)), expected, repr(thing))

    def test_any_objects(self):
        things = NO_LISTS + [(0, 4, 2), [0, 4, None], [0, 4, "2"], [False, 4, 2], [0, True], [True, 2], [0, 4, 2, 5],
                             [-5, 4], [0, -1], [-5, -1], [0, BIG], [[0, 4]], [[0], [4]], [(0, 4)], [{}, 4],
                             {"0": 4}, {"0": 0, "1": 4}, deep(0, 18), [0, 4, deep(2, 10)], ["0", "4"], "04",
                             [Meeting(0, 4), 4], [None, None], P]
        for thing in things:
            self.assertIs(shows_chain(P, thing), False, repr(thing))


class RowsTest(unittest.TestCase):
    def test_rows_and_plans(self):
        expected = [(P, [0, 3, 4, 1, 2], [3, 2, 4, 0, 1], [1, 4, 2, 0, 3]), (ONE, [0], [0], [0]),
                    (BESIDE, [0, 1], [0, 1], [0, 1]), (STACKED, [0, 1], [1, 0], [1, 0]),
                    (BESIDE[::-1], [1, 0], [1, 0], [0, 1]), (STACKED[::-1], [1, 0], [0, 1], [1, 0]),
                    (CUT, [0, 1, 2, 3], [0, 3, 1, 2], [0, 3, 1, 2]), (SHIFTED, [0, 1, 2, 3], [2, 3, 0, 1], [2, 3, 0, 1]),
                    (strip(60), list(range(60)), list(range(60)), list(range(60))),
                    (tower(60), list(range(60)), list(range(59, -1, -1)), list(range(59, -1, -1))),
                    (scaled(P, 10 ** 29), [0, 3, 4, 1, 2], [3, 2, 4, 0, 1], [1, 4, 2, 0, 3])]
        for layout, falling, rising, plan in expected:
            self.assertEqual(falling_row(layout), falling)
            self.assertEqual(rising_row(layout), rising)
            self.assertEqual(plan_of(layout), plan)

    def test_rows_tell_the_ways(self):
        for layout in LAYOUTS + all_layouts(4, 3, 12):
            ways = slow_ways(layout)
            falling, rising = falling_row(layout), rising_row(layout)
            self.assertEqual(sorted(falling), list(range(len(layout))))
            self.assertEqual(sorted(rising), list(range(len(layout))))
            for first, second in itertools.combinations(falling, 2):
                self.assertIn(ways[first, second], (["left"], ["above"]))
            for first, second in itertools.combinations(rising, 2):
                self.assertIn(ways[first, second], (["left"], ["below"]))
            self.assertEqual(plan_of(layout), [falling.index(pane) for pane in rising])

    def test_plans_of_small_layouts(self):
        plans = {tuple(plan_of(layout)) for layout in all_layouts(5, 5, 5)}
        for many in range(1, 6):
            found = sorted(plan for plan in plans if len(plan) == many)
            rows = itertools.permutations(range(many))
            self.assertEqual(found, [row for row in rows if not has_pattern(row)])

    def test_code_of_the_pinwheel(self):
        self.assertEqual(plan_of(grown([1, -1, -2, 2])), [1, 4, 2, 0, 3])


class AlikeTest(unittest.TestCase):
    def test_moved_cuts(self):
        moved = [(0, 0, 5, 2), (5, 0, 9, 6), (3, 6, 9, 7), (0, 2, 3, 7), (3, 2, 5, 6)]
        for function in (lie_alike, same_plan):
            self.assertIs(function(P, moved), True)
            self.assertIs(function(P, P), True)
            self.assertIs(function(P, scaled(P, 10 ** 29)), True)
            self.assertIs(function(ONE, [(0, 0, 1, 1)]), True)
            self.assertIs(function(SHIFTED, SHIFTED_BACK), True)
        self.assertNotEqual(touching_pairs(SHIFTED), touching_pairs(SHIFTED_BACK))

    def test_other_ways(self):
        mirrored = [(3 - x1, y0, 3 - x0, y1) for x0, y0, x1, y1 in P]
        for function in (lie_alike, same_plan):
            self.assertIs(function(BESIDE, STACKED), False)
            self.assertIs(function(STACKED, BESIDE), False)
            self.assertIs(function(P, mirrored), False)
            self.assertIs(function(P, ONE), False)
            self.assertIs(function(strip(59), strip(60)), False)
            self.assertIs(function(strip(5), P), False)

    def test_other_names(self):
        self.assertIs(lie_alike(BESIDE, BESIDE[::-1]), False)
        self.assertIs(same_plan(BESIDE, BESIDE[::-1]), True)
        for layout in (P, mixed(60, 3)):
            self.assertIs(lie_alike(layout, layout[::-1]), False)
            self.assertIs(same_plan(layout, layout[::-1]), True)
        # Only the rising rows differ here, and only the falling rows there.
        self.assertIs(lie_alike(strip(2), tower(2)), False)
        self.assertIs(lie_alike(strip(2), tower(2)[::-1]), False)

    def test_small_layouts(self):
        layouts = all_layouts(3, 3, 4)
        tables = [[slow_ways(layout)[pair] for pair in all_pairs(layout)] for layout in layouts]
        for (layout, table), (other, others) in itertools.product(zip(layouts, tables), repeat=2):
            alike = len(layout) == len(other) and table == others
            self.assertIs(lie_alike(layout, other), alike)
            self.assertIs(same_plan(layout, other), plan_of(layout) == plan_of(other))
            if alike:
                self.assertEqual(plan_of(layout), plan_of(other))


if __name__ == "__main__":
    unittest.main()
