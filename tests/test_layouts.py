"""Tests of paneplans.layouts: promise 6, with 2 and 3."""

import itertools
import unittest

from desks import (
    BESIDE, BIG, CUT, LAYOUTS, NO_SEGMENTS, ONE, P, P_SEGMENTS, PARTED_LEVEL, PARTED_UPRIGHT, SHIFTED, STACKED, STRIP,
    WRONG_LAYOUTS, all_layouts, all_tilings, assert_interface, assert_rejects, assert_rejects_layouts, assert_steady,
    four_meet, mixed, scaled, slow_along, slow_lines, slow_touching, strip, tower)
from paneplans import layouts
from paneplans.errors import InvalidLayout, InvalidPane, InvalidSegment, InvalidWord
from paneplans.layouts import desk_of, is_layout, panes_along, segment_at, segments_of, touching_pairs

SIDES = ("left", "top", "right", "bottom")


class InterfaceTest(unittest.TestCase):
    def test_functions_and_arguments(self):
        assert_interface(self, layouts, {
            "is_layout": ["thing"], "desk_of": ["layout"], "segments_of": ["layout"],
            "panes_along": ["layout", "segment"], "segment_at": ["layout", "pane", "side"],
            "touching_pairs": ["layout"]})

    def test_equal_calls(self):
        for layout in LAYOUTS:
            for function in (desk_of, segments_of, touching_pairs):
                assert_steady(self, function, [layout], ["layout"])
            assert_steady(self, is_layout, [layout], ["thing"])
            for segment in segments_of(layout)[:3]:
                assert_steady(self, panes_along, [layout, segment], ["layout", "segment"])
            for side in SIDES:
                assert_steady(self, segment_at, [layout, 0, side], ["layout", "pane", "side"])

    def test_wrong_layouts_stay_as_they_are(self):
        for thing, _ in WRONG_LAYOUTS:
            before = repr(thing)
            self.assertEqual([is_layout(thing), is_layout(thing=thing)], [False, False])
            self.assertEqual(repr(thing), before)


class IsLayoutTest(unittest.TestCase):
    def test_layouts(self):
        for layout in LAYOUTS:
            self.assertIs(is_layout(layout), True)
            self.assertIs(is_layout(layout[::-1]), True)

    def test_wrong_things(self):
        for thing, _ in WRONG_LAYOUTS:
            self.assertIs(is_layout(thing), False, repr(thing))

    def test_most_panes(self):
        self.assertIs(is_layout(strip(60)), True)
        self.assertIs(is_layout(strip(61)), False)
        self.assertIs(is_layout(mixed(60, 5)), True)
        self.assertIs(is_layout(mixed(61, 5)), False)

    def test_great_corners(self):
        self.assertIs(is_layout([(0, 0, BIG, BIG)]), True)
        self.assertIs(is_layout([(0, 0, 10 ** 40, 1)]), True)
        self.assertIs(is_layout(scaled(P, 10 ** 29)), True)
        self.assertIs(is_layout([(0, 0, BIG - 1, BIG), (BIG - 1, 0, BIG, BIG)]), True)
        self.assertIs(is_layout([(0, 0, BIG - 1, BIG), (BIG - 2, 0, BIG, BIG)]), False)
        self.assertIs(is_layout([(0, 0, BIG - 2, BIG), (BIG - 1, 0, BIG, BIG)]), False)

    def test_tilings_of_a_small_desk(self):
        tilings = all_tilings(3, 3, 9)
        self.assertEqual(len(tilings), 322)
        for panes in tilings:
            self.assertIs(is_layout(panes), not four_meet(panes), repr(panes))
            self.assertIs(is_layout(panes[1:]), False, repr(panes))

    def test_all_short_lists_of_panes(self):
        # What covers a square twice and leaves another one free must not make up for it.
        spans = [(0, 1), (0, 2), (1, 2)]
        panes = [(x0, y0, x1, y1) for (x0, x1), (y0, y1) in itertools.product(spans, repeat=2)]
        for many in range(1, 6):
            for things in itertools.product(panes, repeat=many):
                width, height = (max(pane[side] for pane in things) for side in (2, 3))
                squares = sorted((x, y) for a, b, c, d in things for x in range(a, c) for y in range(b, d))
                whole = squares == list(itertools.product(range(width), range(height)))
                self.assertIs(is_layout(list(things)), whole and many < 4, repr(things))


class WrongLayoutTest(unittest.TestCase):
    def test_each_function_rejects_wrong_layouts(self):
        for function in (desk_of, segments_of, touching_pairs):
            assert_rejects_layouts(self, function)
        assert_rejects_layouts(self, lambda thing: panes_along(thing, ("level", 1, 0, 2)))
        assert_rejects_layouts(self, lambda thing: segment_at(thing, 0, "left"))

    def test_the_layout_is_checked_first(self):
        assert_rejects_layouts(self, lambda thing: panes_along(thing, None))
        assert_rejects_layouts(self, lambda thing: segment_at(thing, -1, "nowhere"))

    def test_each_place_of_the_wrong_item(self):
        for place in range(60):
            panes = strip(60)
            panes[place] = list(panes[place])
            self.assertEqual(assert_rejects(self, lambda: desk_of(panes), InvalidLayout).pane, place)
            panes[place] = (0, 0, 60, 1)
            wrong = assert_rejects(self, lambda: desk_of(panes), InvalidLayout).pane
            self.assertEqual(wrong, place if place else 1)


class DeskOfTest(unittest.TestCase):
    def test_desks(self):
        expected = [(P, (3, 3)), (ONE, (7, 4)), (BESIDE, (5, 3)), (STACKED, (3, 5)), (CUT, (5, 4)),
                    (strip(60), (60, 1)), (tower(60), (1, 60)), (scaled(P, 10 ** 29), (3 * 10 ** 29, 3 * 10 ** 29)),
                    ([(0, 0, BIG, BIG)], (BIG, BIG))]
        for layout, desk in expected:
            self.assertEqual(desk_of(layout), desk)
            self.assertIsInstance(desk_of(layout), tuple)


class SegmentsOfTest(unittest.TestCase):
    def test_segments(self):
        self.assertEqual(segments_of(P), P_SEGMENTS)
        self.assertEqual(segments_of(ONE), [])
        self.assertEqual(segments_of(BESIDE), [("upright", 2, 0, 3)])
        self.assertEqual(segments_of(STACKED), [("level", 2, 0, 3)])
        self.assertEqual(segments_of(CUT), [("level", 2, 1, 5), ("upright", 1, 0, 4), ("upright", 2, 0, 2)])
        self.assertEqual(segments_of(SHIFTED), [("level", 1, 0, 3), ("upright", 1, 0, 1), ("upright", 2, 1, 2)])
        self.assertEqual(segments_of(strip(60)), [("upright", x, 0, 1) for x in range(1, 60)])

    def test_lines_that_are_parted(self):
        self.assertEqual(segments_of(PARTED_UPRIGHT),
                         [("level", 1, 0, 4), ("level", 2, 0, 4), ("upright", 2, 0, 1), ("upright", 2, 2, 3)])
        self.assertEqual(segments_of(PARTED_LEVEL),
                         [("level", 2, 0, 1), ("level", 2, 2, 3), ("upright", 1, 0, 4), ("upright", 2, 0, 4)])

    def test_numbers_are_sorted_as_numbers(self):
        self.assertEqual([place for _, place, _, _ in segments_of(tower(60)[::-1])], list(range(1, 60)))

    def test_one_less_than_panes(self):
        for layout in LAYOUTS:
            segments = segments_of(layout)
            self.assertEqual(len(segments), len(layout) - 1)
            self.assertEqual(segments, slow_lines(layout))

    def test_small_desks(self):
        for layout in all_layouts(4, 3, 12):
            self.assertEqual(segments_of(layout), slow_lines(layout))
            self.assertEqual(len(segments_of(layout)), len(layout) - 1)

    def test_great_corners(self):
        far = 10 ** 29
        expected = [(kind, place * far, first * far, last * far) for kind, place, first, last in P_SEGMENTS]
        self.assertEqual(segments_of(scaled(P, far)), expected)


class PanesAlongTest(unittest.TestCase):
    def test_panes(self):
        self.assertEqual(panes_along(P, ("level", 1, 0, 2)), ([0], [3, 4]))
        self.assertEqual(panes_along(P, ("level", 2, 1, 3)), ([4, 1], [2]))
        self.assertEqual(panes_along(P, ("upright", 1, 1, 3)), ([3], [4, 2]))
        self.assertEqual(panes_along(P, ("upright", 2, 0, 2)), ([0, 4], [1]))
        self.assertEqual(panes_along(SHIFTED, ("level", 1, 0, 3)), ([0, 1], [2, 3]))
        self.assertEqual(panes_along(SHIFTED[::-1], ("level", 1, 0, 3)), ([3, 2], [1, 0]))
        answer = panes_along(P, ("level", 1, 0, 2))
        self.assertEqual([part.__class__ for part in (answer, *answer)], [tuple, list, list])

    def test_lines_that_are_parted(self):
        self.assertEqual(panes_along(PARTED_UPRIGHT, ("upright", 2, 0, 1)), ([0], [1]))
        self.assertEqual(panes_along(PARTED_UPRIGHT, ("upright", 2, 2, 3)), ([3], [4]))
        self.assertEqual(panes_along(PARTED_LEVEL, ("level", 2, 0, 1)), ([0], [1]))
        self.assertEqual(panes_along(PARTED_LEVEL, ("level", 2, 2, 3)), ([3], [4]))

    def test_against_squares(self):
        for layout in LAYOUTS + all_layouts(3, 3, 9):
            for segment in segments_of(layout):
                self.assertEqual(panes_along(layout, segment), slow_along(layout, segment))

    def test_wrong_segments(self):
        for segment in NO_SEGMENTS:
            assert_rejects(self, lambda: panes_along(P, segment), InvalidSegment, repr(segment))

    def test_segment_of_another_layout(self):
        assert_rejects(self, lambda: panes_along(ONE, P_SEGMENTS[0]), InvalidSegment)
        assert_rejects(self, lambda: panes_along(PARTED_UPRIGHT, ("upright", 2, 0, 3)), InvalidSegment)


class SegmentAtTest(unittest.TestCase):
    def test_segments(self):
        level, lower, upright, right = P_SEGMENTS
        expected = [[None, None, right, level], [right, None, None, lower], [upright, lower, None, None],
                    [None, level, upright, None], [upright, level, right, lower]]
        for pane, segments in enumerate(expected):
            self.assertEqual([segment_at(P, pane, side) for side in SIDES], segments)

    def test_border(self):
        for side in SIDES:
            self.assertIsNone(segment_at(ONE, 0, side))
        self.assertIsNone(segment_at(strip(60), 59, "right"))
        self.assertEqual(segment_at(strip(60), 59, "left"), ("upright", 59, 0, 1))

    def test_lines_that_are_parted(self):
        self.assertEqual(segment_at(PARTED_UPRIGHT, 0, "right"), ("upright", 2, 0, 1))
        self.assertEqual(segment_at(PARTED_UPRIGHT, 4, "left"), ("upright", 2, 2, 3))
        self.assertEqual(segment_at(PARTED_LEVEL, 1, "top"), ("level", 2, 0, 1))
        self.assertEqual(segment_at(PARTED_LEVEL, 3, "bottom"), ("level", 2, 2, 3))

    def test_each_side_against_panes_along(self):
        for layout in LAYOUTS + all_layouts(3, 3, 9):
            found = {}
            for segment in segments_of(layout):
                names = ("right", "left") if segment[0] == "upright" else ("bottom", "top")
                for name, panes in zip(names, panes_along(layout, segment)):
                    found.update({(pane, name): segment for pane in panes})
            for pane in range(len(layout)):
                for side in SIDES:
                    self.assertEqual(segment_at(layout, pane, side), found.get((pane, side)))

    def test_wrong_panes_and_words(self):
        for pane in (-1, -5, 5, 60, BIG, -BIG):
            assert_rejects(self, lambda: segment_at(P, pane, "left"), InvalidPane, repr(pane))
            assert_rejects(self, lambda: segment_at(P, pane, "nowhere"), InvalidPane, repr(pane))
        for side in ("", "Left", "above", "upright", "left ", "le", "lefttop"):
            assert_rejects(self, lambda: segment_at(P, 0, side), InvalidWord, repr(side))


class TouchingPairsTest(unittest.TestCase):
    def test_pairs(self):
        self.assertEqual(touching_pairs(P), [(0, 1), (0, 3), (0, 4), (1, 2), (1, 4), (2, 3), (2, 4), (3, 4)])
        self.assertEqual(touching_pairs(ONE), [])
        self.assertEqual(touching_pairs(BESIDE), [(0, 1)])
        self.assertEqual(touching_pairs(STACKED), [(0, 1)])
        self.assertEqual(touching_pairs(STRIP), [(0, 1), (1, 2), (2, 3)])
        self.assertEqual(touching_pairs(strip(60)[::-1]), [(pane, pane + 1) for pane in range(59)])

    def test_panes_with_a_common_point(self):
        # Where no four panes meet, two panes with a common point share a stretch, too.
        for layout in LAYOUTS + all_layouts(3, 3, 9):
            pairs = itertools.combinations(range(len(layout)), 2)
            self.assertEqual(touching_pairs(layout), [
                (first, second) for first, second in pairs
                if max(layout[first][0], layout[second][0]) <= min(layout[first][2], layout[second][2])
                and max(layout[first][1], layout[second][1]) <= min(layout[first][3], layout[second][3])])

    def test_panes_at_one_segment_need_not_touch(self):
        self.assertEqual(touching_pairs(SHIFTED), [(0, 1), (0, 2), (1, 2), (1, 3), (2, 3)])

    def test_against_squares(self):
        for layout in LAYOUTS + all_layouts(4, 3, 12):
            self.assertEqual(touching_pairs(layout), slow_touching(layout))

    def test_great_corners(self):
        self.assertEqual(touching_pairs(scaled(P, 10 ** 29)), touching_pairs(P))


if __name__ == "__main__":
    unittest.main()
