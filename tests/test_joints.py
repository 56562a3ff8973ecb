"""Tests of paneplans.joints: promise 15, with 2, 3 and 4 (R4)."""

import itertools
import unittest

from desks import (
    BESIDE, BIG, CUT, LAYOUTS, NO_SEGMENTS, ONE, P, P_SEGMENTS, SHIFTED, SHIFTED_BACK, STACKED, STRIP, all_layouts,
    assert_interface, assert_rejects, assert_rejects_layouts, assert_steady, least_meeting, mixed, scaled, slow_lines,
    slow_touching, slow_ways, strip, turned)
from paneplans import joints
from paneplans.errors import InvalidLayout, InvalidNumber, InvalidSegment, Meeting
from paneplans.joints import drag_room, dragged_layout, joints_of, touch_alike, touch_words
from paneplans.layouts import desk_of, is_layout, panes_along, segments_of, touching_pairs
from paneplans.relations import falling_row, lie_alike, plan_of, rising_row

ENDS = {"upright": ("left", "right"), "level": ("above", "below")}


def slow_joints(layout, segment):
    """Return the joints of a segment, by the ends of all other segments."""
    kind, place, first, last = segment
    found = []
    for other_kind, at, start, end in segments_of(layout):
        if other_kind != kind and first < at < last:
            found += [(at, ENDS[kind][0])] * (end == place) + [(at, ENDS[kind][1])] * (start == place)
    return sorted(found)


def slow_dragged(layout, segment, place):
    """Return panes whose sides on a segment are moved with it."""
    kind, at, first, last = segment
    low, along = (0, 1) if kind == "upright" else (1, 0)
    panes = []
    for corners in map(list, layout):
        if first <= corners[along] and corners[along + 2] <= last:
            for side in (low, low + 2):
                corners[side] = place if corners[side] == at else corners[side]
        panes.append(tuple(corners))
    return panes


def keeps_sizes(panes):
    """Tell whether all panes have a width and a height of at least 1."""
    return all(x0 < x1 and y0 < y1 for x0, y0, x1, y1 in panes)


def rows(layout):
    """Return both rows as they can be a key."""
    return tuple(falling_row(layout)), tuple(rising_row(layout))


def words_by_panes(layout):
    """Return the sequences of ends along the segments, each named by the panes along it."""
    segments = segments_of(layout)
    return sorted((segment[0], *panes_along(layout, segment), words)
                  for segment, words in zip(segments, touch_words(layout)))


class InterfaceTest(unittest.TestCase):
    def test_functions_and_arguments(self):
        pair = ["layout", "segment"]
        assert_interface(self, joints, {
            "joints_of": pair, "touch_words": ["layout"], "touch_alike": ["layout", "other"], "drag_room": pair,
            "dragged_layout": ["layout", "segment", "place"]})

    def test_equal_calls(self):
        for layout in LAYOUTS:
            assert_steady(self, touch_words, [layout], ["layout"])
            assert_steady(self, touch_alike, [layout, P], ["layout", "other"])
            for segment in segments_of(layout)[::9]:
                assert_steady(self, joints_of, [layout, segment], ["layout", "segment"])
                assert_steady(self, drag_room, [layout, segment], ["layout", "segment"])
                assert_steady(self, dragged_layout, [layout, segment, segment[1]], ["layout", "segment", "place"])


class JointsOfTest(unittest.TestCase):
    def test_joints(self):
        self.assertEqual(joints_of(P, ("level", 1, 0, 2)), [(1, "below")])
        self.assertEqual(joints_of(P, ("level", 2, 1, 3)), [(2, "above")])
        self.assertEqual(joints_of(P, ("upright", 1, 1, 3)), [(2, "right")])
        self.assertEqual(joints_of(P, ("upright", 2, 0, 2)), [(1, "left")])
        self.assertEqual(joints_of(BESIDE, ("upright", 2, 0, 3)), [])
        self.assertEqual(joints_of(SHIFTED, ("level", 1, 0, 3)), [(1, "above"), (2, "below")])
        self.assertEqual(joints_of(SHIFTED_BACK, ("level", 1, 0, 3)), [(1, "below"), (2, "above")])
        self.assertEqual(joints_of(turned(SHIFTED), ("upright", 1, 0, 3)), [(1, "left"), (2, "right")])
        self.assertEqual(joints_of(scaled(SHIFTED, 10 ** 29), ("level", 10 ** 29, 0, 3 * 10 ** 29)),
                         [(10 ** 29, "above"), (2 * 10 ** 29, "below")])
        # Numbers are sorted as numbers.
        layout = [(x, 0, x + 1, 1) for x in range(12)] + [(0, 1, 12, 2)]
        self.assertEqual(joints_of(layout, ("level", 1, 0, 12)), [(x, "above") for x in range(1, 12)])
        self.assertEqual(joints_of([(x0, 2 - y1, x1, 2 - y0) for x0, y0, x1, y1 in layout], ("level", 1, 0, 12)),
                         [(x, "below") for x in range(1, 12)])

    def test_against_the_ends_of_segments(self):
        for layout in LAYOUTS + [panes[::-1] for panes in LAYOUTS] + all_layouts(4, 3, 12):
            for segment in segments_of(layout):
                self.assertEqual(joints_of(layout, segment), slow_joints(layout, segment), repr(layout))

    def test_against_corners(self):
        for layout in LAYOUTS:
            for kind, place, first, last in segments_of(layout):
                side, along = (2, 1) if kind == "upright" else (3, 0)
                found = {}
                for pane in layout:
                    for sign, at in ((0, side), (1, side - 2)):
                        if pane[at] == place and first <= pane[along] and pane[along + 2] < last:
                            found[pane[along + 2]] = ENDS[kind][sign]
                self.assertEqual(joints_of(layout, (kind, place, first, last)), sorted(found.items()))

    def test_wrong_arguments(self):
        for function in (joints_of, drag_room):
            for segment in (P_SEGMENTS[0], None):
                assert_rejects_layouts(self, lambda thing: function(thing, segment))
            for segment in NO_SEGMENTS:
                assert_rejects(self, lambda: function(P, segment), InvalidSegment, repr(segment))
                assert_rejects(self, lambda: function(ONE, segment), InvalidSegment, repr(segment))


class TouchWordsTest(unittest.TestCase):
    def test_words(self):
        self.assertEqual(touch_words(ONE), [])
        self.assertEqual(touch_words(BESIDE), [[]])
        self.assertEqual(touch_words(P), [["below"], ["above"], ["right"], ["left"]])
        self.assertEqual(touch_words(SHIFTED), [["above", "below"], [], []])
        self.assertEqual(touch_words(SHIFTED_BACK), [["below", "above"], [], []])
        self.assertEqual(touch_words(strip(60)), [[]] * 59)

    def test_against_joints(self):
        for layout in LAYOUTS + all_layouts(3, 3, 9):
            found = [[side for _, side in slow_joints(layout, segment)] for segment in slow_lines(layout)]
            self.assertEqual(touch_words(layout), found)
            for segment, words in zip(segments_of(layout), touch_words(layout)):
                self.assertEqual([side for _, side in joints_of(layout, segment)], words)

    def test_wrong_layouts(self):
        assert_rejects_layouts(self, touch_words)


class TouchAlikeTest(unittest.TestCase):
    def test_layouts(self):
        moved = [(0, 0, 5, 2), (5, 0, 9, 6), (3, 6, 9, 7), (0, 2, 3, 7), (3, 2, 5, 6)]
        self.assertIs(touch_alike(P, moved), True)
        self.assertIs(touch_alike(P, scaled(P, 10 ** 29)), True)
        self.assertIs(touch_alike(ONE, [(0, 0, 1, 1)]), True)
        self.assertIs(touch_alike(SHIFTED, SHIFTED_BACK), False)
        self.assertIs(touch_alike(SHIFTED, SHIFTED), True)
        # The sequence of segments_of is another one, the sequence along each segment is not.
        far = [(0, 0, 5, 1), (5, 0, 9, 1), (0, 1, 6, 2), (6, 1, 9, 2)]
        self.assertIs(touch_alike(SHIFTED, far), True)
        # The same panes touch, but they do not lie alike.
        self.assertEqual(touching_pairs(BESIDE), touching_pairs(STACKED))
        self.assertIs(touch_alike(BESIDE, STACKED), False)
        self.assertIs(touch_alike(BESIDE, BESIDE[::-1]), False)
        self.assertIs(touch_alike(STRIP, STRIP[::-1]), False)
        self.assertIs(touch_alike(strip(59), strip(60)), False)
        self.assertIs(touch_alike(mixed(60, 3), mixed(60, 3)), True)
        self.assertIs(touch_alike(mixed(60, 3), mixed(60, 4)), False)

    def test_where_cuts_lie(self):
        # Layouts that lie alike: with the same touching pairs if and only if the ends follow one another alike.
        groups = {}
        for layout in all_layouts(4, 4, 5) + all_layouts(3, 3, 9):
            groups.setdefault(rows(layout), []).append(layout)
        found = []
        for group in groups.values():
            words = [words_by_panes(layout) for layout in group[:9]]
            for (layout, one), (other, another) in itertools.product(list(zip(group, words)), repeat=2):
                self.assertIs(touch_alike(layout, other), one == another, repr((layout, other)))
                self.assertIs(touch_alike(layout, other), slow_touching(layout) == slow_touching(other))
                found.append(one == another)
        self.assertGreater(found.count(False), 100)

    def test_small_layouts(self):
        layouts = all_layouts(3, 2, 4)
        for layout, other in itertools.product(layouts, repeat=2):
            alike = len(layout) == len(other) and slow_ways(layout) == slow_ways(other)
            self.assertIs(touch_alike(layout, other), alike and slow_touching(layout) == slow_touching(other))

    def test_wrong_layouts(self):
        assert_rejects_layouts(self, lambda thing: touch_alike(thing, P))
        assert_rejects_layouts(self, lambda thing: touch_alike(P, thing))
        assert_rejects_layouts(self, lambda thing: touch_alike(thing, None))
        self.assertEqual(assert_rejects(self, lambda: touch_alike([None], P + [None]), InvalidLayout).pane, 0)


class DragRoomTest(unittest.TestCase):
    def test_rooms(self):
        self.assertEqual(drag_room(BESIDE, ("upright", 2, 0, 3)), (1, 4))
        self.assertEqual(drag_room(STACKED, ("level", 2, 0, 3)), (1, 4))
        self.assertEqual(drag_room([(0, 0, 1, 1), (1, 0, 2, 1)], ("upright", 1, 0, 1)), (1, 1))
        self.assertEqual([drag_room(P, segment) for segment in P_SEGMENTS], [(1, 1), (2, 2), (1, 1), (2, 2)])
        self.assertEqual(drag_room([(0, 0, 1, BIG), (1, 0, BIG, BIG)], ("upright", 1, 0, BIG)), (1, BIG - 1))
        self.assertEqual(drag_room(CUT, ("upright", 2, 0, 2)), (2, 4))
        self.assertEqual(drag_room(CUT, ("upright", 1, 0, 4)), (1, 1))
        self.assertIsInstance(drag_room(CUT, ("upright", 1, 0, 4)), tuple)

    def test_against_each_place(self):
        layouts = [scaled(P, 3), scaled(CUT, 2), scaled(SHIFTED, 4), mixed(12, 1), mixed(30, 2), mixed(60, 3)]
        for layout in layouts + [turned(layout) for layout in layouts] + all_layouts(4, 4, 4):
            most = max(desk_of(layout)) + 2
            for segment in segments_of(layout):
                found = [place for place in range(-1, most) if keeps_sizes(slow_dragged(layout, segment, place))]
                self.assertEqual(drag_room(layout, segment), (min(found), max(found)), repr(layout))
                self.assertEqual(found, list(range(min(found), max(found) + 1)))
                self.assertIn(segment[1], found)


class DraggedLayoutTest(unittest.TestCase):
    def test_layouts(self):
        self.assertEqual(dragged_layout(BESIDE, ("upright", 2, 0, 3), 4), [(0, 0, 4, 3), (4, 0, 5, 3)])
        self.assertEqual(dragged_layout(STACKED, ("level", 2, 0, 3), 1), [(0, 0, 3, 1), (0, 1, 3, 5)])
        self.assertEqual(dragged_layout(scaled(P, 2), ("upright", 4, 0, 4), 3),
                         [(0, 0, 3, 2), (3, 0, 6, 4), (2, 4, 6, 6), (0, 2, 2, 6), (2, 2, 3, 4)])
        self.assertEqual(dragged_layout([(0, 0, 1, BIG), (1, 0, BIG, BIG)], ("upright", 1, 0, BIG), BIG - 1),
                         [(0, 0, BIG - 1, BIG), (BIG - 1, 0, BIG, BIG)])

    def test_the_place_it_has(self):
        for layout in LAYOUTS:
            for segment in segments_of(layout):
                found = dragged_layout(layout, segment, segment[1])
                self.assertEqual(found, layout)
                self.assertIsNot(found, layout)

    def test_it_passes_ends_of_other_segments(self):
        wide = scaled(SHIFTED, 2)
        self.assertEqual(dragged_layout(wide, ("upright", 2, 0, 2), 5),
                         [(0, 0, 5, 2), (5, 0, 6, 2), (0, 2, 4, 4), (4, 2, 6, 4)])
        self.assertEqual(dragged_layout(turned(wide), ("level", 4, 2, 4), 1),
                         turned([(0, 0, 2, 2), (2, 0, 6, 2), (0, 2, 1, 4), (1, 2, 6, 4)]))
        wrong = assert_rejects(self, lambda: dragged_layout(wide, ("upright", 2, 0, 2), 4), Meeting)
        self.assertEqual((wrong.x, wrong.y), (4, 2))

    def test_each_place_of_a_room(self):
        layouts = [scaled(P, 3), scaled(CUT, 2), scaled(SHIFTED, 4), mixed(12, 1), mixed(30, 2), mixed(60, 3)]
        met = 0
        for layout in layouts + [turned(layout) for layout in layouts] + all_layouts(4, 4, 4):
            for segment in segments_of(layout):
                least, greatest = drag_room(layout, segment)
                for place in range(least, greatest + 1):
                    expected = slow_dragged(layout, segment, place)
                    point = least_meeting(expected)
                    if point is not None:
                        wrong = assert_rejects(self, lambda: dragged_layout(layout, segment, place), Meeting)
                        self.assertEqual((wrong.x, wrong.y), point)
                        met += 1
                        continue
                    found = dragged_layout(layout, segment, place)
                    self.assertEqual(found, expected)
                    self.assertIs(is_layout(found), True)
                    self.assertIs(lie_alike(found, layout), True)
                    self.assertIn((segment[0], place), [other[:2] for other in segments_of(found)])
                for place in (least - 1, greatest + 1, 0, -1, BIG, -BIG):
                    assert_rejects(self, lambda: dragged_layout(layout, segment, place), InvalidNumber)
        self.assertGreater(met, 100)

    def test_the_least_of_two_meetings(self):
        # Both ends of the middle pane's right side come to where segments of the outer rows end.
        layout = [(0, 0, 4, 1), (4, 0, 6, 1), (0, 1, 2, 2), (2, 1, 6, 2), (0, 2, 4, 3), (4, 2, 6, 3)]
        segment = ("upright", 2, 1, 2)
        wrong = assert_rejects(self, lambda: dragged_layout(layout, segment, 4), Meeting)
        self.assertEqual((wrong.x, wrong.y), (4, 1))
        wrong = assert_rejects(self, lambda: dragged_layout(turned(layout), ("level", 2, 1, 2), 4), Meeting)
        self.assertEqual((wrong.x, wrong.y), (1, 4))
        far = 10 ** 29
        wrong = assert_rejects(self, lambda: dragged_layout(scaled(layout, far), ("upright", 2 * far, far, 2 * far),
                                                            4 * far), Meeting)
        self.assertEqual((wrong.x, wrong.y), (4 * far, far))
        self.assertEqual(plan_of(dragged_layout(layout, segment, 5)), plan_of(layout))

    def test_wrong_arguments(self):
        for segment, place in ((P_SEGMENTS[0], 1), (None, -1)):
            assert_rejects_layouts(self, lambda thing: dragged_layout(thing, segment, place))
        for segment, place in itertools.product(NO_SEGMENTS, (1, -1, BIG)):
            assert_rejects(self, lambda: dragged_layout(P, segment, place), InvalidSegment, repr(segment))
        for segment, place in itertools.product(P_SEGMENTS, (0, 3, -1, BIG, -BIG)):
            assert_rejects(self, lambda: dragged_layout(P, segment, place), InvalidNumber, repr(segment))


if __name__ == "__main__":
    unittest.main()
