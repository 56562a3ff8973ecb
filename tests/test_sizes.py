"""Tests of paneplans.sizes: promise 14, with 2 and 4 (R7)."""

import itertools
import unittest

from desks import (
    BESIDE, BIG, CUT, LAYOUTS, NO_LISTS, ONE, P, SHIFTED, STACKED, all_layouts, all_tilings, assert_interface,
    assert_rejects, assert_rejects_layouts, assert_steady, deep, mixed, scaled, slow_ways, strip, tower)
from paneplans import sizes
from paneplans.errors import InvalidSizes, InvalidWord, Meeting, TooSmall
from paneplans.layouts import is_layout, panes_along, segments_of
from paneplans.plans import drawn_layout
from paneplans.relations import lie_alike, plan_of
from paneplans.sizes import fits_desk, greatest_corners, heaviest_chain, least_corners, least_desk, rooms_of
from rows import P_PLAN, all_plans, mixed_plan

ALL_THREE = ["layout", "widths", "heights"]
ALL_FOUR = ["layout", "widths", "heights", "desk"]

# Whatever is no list of five sizes.
NO_SIZES = NO_LISTS + [
    [], [1], [1] * 4, [1] * 6, (1, 1, 1, 1, 1), [0, 1, 1, 1, 1], [1, 1, 1, 1, 0], [1, 1, -1, 1, 1], [1, 1, 1, 1, -BIG],
    [True, 1, 1, 1, 1], [1, 1, 1, 1, True], [1, 1, False, 1, 1], [True] * 5, ["1"] * 5, [1, 1, "1", 1, 1],
    [1, None, 1, 1, 1], [1, 1, 1, 1, [1]], [[1, 1, 1, 1, 1]], [(1,)] * 5, [1, 1, 1, 1, (1,)], [{}] * 5, "11111",
    {"0": 1, "1": 1, "2": 1, "3": 1, "4": 1}, deep([1, 1, 1, 1, 1], 15), [1, 1, 1, 1, Meeting(1, 1)], P, P_PLAN,
    [InvalidSizes("1")] * 5, [1] * 60, [1] * 4000]

# Whatever is no tuple of two sizes.
NO_DESKS = [thing for thing in NO_LISTS] + [
    [9, 9], (9,), (9, 9, 9), (0, 9), (9, 0), (-1, 9), (9, -BIG), (0, 0), (True, 9), (9, True), (True, True), (9, False),
    ("9", "9"), (9, "9"), (None, 9), (9, None), ((9, 9),), (9, (9,)), ([9], 9), (9, {}), [(9, 9)], {"0": 9, "1": 9},
    "99", deep((9, 9), 15), (Meeting(9, 9), 9), Meeting(9, 9)]

SEVERAL = [P, CUT, SHIFTED, BESIDE, STACKED, ONE]
TILINGS = {desk: all_tilings(*desk, 5) for desk in ((2, 3), (3, 3), (3, 2), (4, 3))}


def some_sizes(many, seed):
    """Return so many sizes from 1 to 9."""
    found = []
    for _ in range(many):
        seed = (seed * 1103515245 + 12345) & 0x7FFFFFFF
        found.append((seed >> 8) % 9 + 1)
    return found


def pairs_that_lie(layout, way):
    """Return the pairs of panes of which the first one lies so to the second one."""
    return [pair for pair, ways in slow_ways(layout).items() if ways == [way]]


def all_chains(layout, way):
    """Return all lists of panes each of which lies so to the next one."""
    pairs = pairs_that_lie(layout, way)
    chains = [[pane] for pane in range(len(layout))]
    fresh = chains
    while fresh:
        fresh = [chain + [second] for chain in fresh for first, second in pairs if first == chain[-1]]
        chains = chains + fresh
    return chains


def slow_length(layout, way, sizes_of_panes):
    """Return the greatest sum of sizes of panes that each lie so to the next one."""
    before = {pane: [] for pane in range(len(layout))}
    for first, second in pairs_that_lie(layout, way):
        before[second].append(first)
    sums = {}
    for pane in sorted(before, key=lambda pane: len(before[pane])):
        sums[pane] = sizes_of_panes[pane] + max([sums[other] for other in before[pane]], default=0)
    return max(sums.values())


def tiles(corners, desk):
    """Tell whether corners tile a desk, also where four meet."""
    width, height = desk
    inside = all(0 <= x0 < x1 <= width and 0 <= y0 < y1 <= height for x0, y0, x1, y1 in corners)
    apart = all(a[2] <= b[0] or b[2] <= a[0] or a[3] <= b[1] or b[3] <= a[1]
                for a, b in itertools.combinations(corners, 2))
    return inside and apart and sum((c - a) * (d - b) for a, b, c, d in corners) == width * height


def lies_so(left, above, corners):
    """Tell whether panes with these corners lie so, these left of and those above others, as R7 says."""
    return (all(corners[a][2] <= corners[b][0] for a, b in left)
            and all(corners[a][3] <= corners[b][1] for a, b in above))


def keep_sizes(corners, widths, heights):
    """Tell whether panes with these corners have these least widths and heights."""
    return all(x1 - x0 >= width and y1 - y0 >= height
               for (x0, y0, x1, y1), width, height in zip(corners, widths, heights))


def places_in(layout, corners):
    """Return the place of each segment of a layout in other corners of its panes."""
    found = []
    for segment in segments_of(layout):
        ahead, behind = panes_along(layout, segment)
        low = 0 if segment[0] == "upright" else 1
        places = {corners[pane][low + 2] for pane in ahead} | {corners[pane][low] for pane in behind}
        assert len(places) == 1, (layout, corners)
        found.append(places.pop())
    return found


def all_corners(layout, desk, widths, heights):
    """Return all corners of R7 on a small desk, by trying all tilings and all names of their panes."""
    pairs = [pairs_that_lie(layout, way) for way in ("left", "above")]
    found = []
    for panes in TILINGS[desk]:
        if len(panes) == len(layout):
            found += [list(corners) for corners in itertools.permutations(panes)
                      if keep_sizes(corners, widths, heights) and lies_so(*pairs, corners)]
    return found


def corners_with(layout, widths, heights, desk, at, place):
    """Return corners of R7 in which one segment has a place, found by moving lines on, None if there are none."""
    many = len(layout)
    segments = segments_of(layout)
    lines = [[None] * many for _ in range(4)]
    for index, segment in enumerate(segments):
        low = 0 if segment[0] == "upright" else 1
        ahead, behind = panes_along(layout, segment)
        for pane in ahead:
            lines[low + 2][pane] = index
        for pane in behind:
            lines[low][pane] = index
    places = [place if index == at else 0 for index in range(many - 1)]
    moved = True
    while moved:
        moved = False
        for low, given in ((0, widths), (1, heights)):
            for pane in range(many):
                line, end = lines[low][pane], lines[low + 2][pane]
                start = 0 if line is None else places[line]
                if end is None and start + given[pane] > desk[low] or at == end and start + given[pane] > place:
                    return None
                if end is not None and places[end] < start + given[pane]:
                    places[end] = start + given[pane]
                    moved = True
    ends = (0, 0, *desk)
    return [tuple(ends[side] if lines[side][pane] is None else places[lines[side][pane]] for side in range(4))
            for pane in range(many)]


class InterfaceTest(unittest.TestCase):
    def test_functions_and_arguments(self):
        assert_interface(self, sizes, {
            "least_desk": ALL_THREE, "heaviest_chain": ["layout", "sizes", "kind"], "least_corners": ALL_THREE,
            "fits_desk": ALL_FOUR, "greatest_corners": ALL_FOUR, "rooms_of": ALL_FOUR})

    def test_equal_calls(self):
        for layout in LAYOUTS:
            widths, heights = some_sizes(len(layout), 1), some_sizes(len(layout), 2)
            for function in (least_desk, least_corners):
                assert_steady(self, function, [layout, widths, heights], ALL_THREE)
            for kind in ("left", "above"):
                assert_steady(self, heaviest_chain, [layout, widths, kind], ["layout", "sizes", "kind"])
            for function in (fits_desk, greatest_corners, rooms_of):
                assert_steady(self, function, [layout, widths, heights, (999, 999)], ALL_FOUR)

    def test_each_argument_by_its_name(self):
        self.assertEqual(least_desk(heights=[1, 2], widths=[3, 4], layout=BESIDE), (7, 2))
        self.assertIs(fits_desk(desk=(7, 2), heights=[1, 2], widths=[3, 4], layout=BESIDE), True)


class LeastDeskTest(unittest.TestCase):
    def test_desks(self):
        self.assertEqual(least_desk(ONE, [4], [9]), (4, 9))
        self.assertEqual(least_desk(BESIDE, [3, 4], [5, 2]), (7, 5))
        self.assertEqual(least_desk(STACKED, [3, 4], [5, 2]), (4, 7))
        self.assertEqual(least_desk(P, [1] * 5, [1] * 5), (3, 3))
        self.assertEqual(least_desk(P, [10, 1, 1, 1, 1], [1, 1, 1, 10, 1]), (11, 11))
        # 3, 4 and 1 stand side by side, 0, 4 and 2 one above the other.
        self.assertEqual(least_desk(P, [1, 2, 1, 3, 4], [1, 2, 3, 4, 5]), (9, 9))
        self.assertEqual(least_desk(strip(60), [BIG] * 60, [BIG] * 60), (60 * BIG, BIG))
        self.assertEqual(least_desk(tower(60), [1] * 60, list(range(1, 61))), (1, 1830))
        self.assertEqual(least_desk(scaled(P, 10 ** 29), [1] * 5, [1] * 5), (3, 3))
        self.assertIsInstance(least_desk(ONE, [1], [1]), tuple)

    def test_against_all_chains(self):
        for layout in SEVERAL + [drawn_layout(plan) for many in range(1, 6) for plan in all_plans(many)]:
            for seed in range(3):
                widths, heights = some_sizes(len(layout), seed), some_sizes(len(layout), seed + 9)
                expected = tuple(max(sum(given[pane] for pane in chain) for chain in all_chains(layout, way))
                                 for way, given in (("left", widths), ("above", heights)))
                self.assertEqual(least_desk(layout, widths, heights), expected, repr(layout))

    def test_many_panes(self):
        for layout in (mixed(12, 1), mixed(30, 2), mixed(60, 3), mixed(60, 4), drawn_layout(mixed_plan(60, 3))):
            widths, heights = some_sizes(len(layout), 1), [size * 10 ** 29 for size in some_sizes(len(layout), 2)]
            expected = (slow_length(layout, "left", widths), slow_length(layout, "above", heights))
            self.assertEqual(least_desk(layout, widths, heights), expected)


class HeaviestChainTest(unittest.TestCase):
    def test_only_chains(self):
        self.assertEqual([heaviest_chain(ONE, [4], kind) for kind in ("left", "above")], [[0], [0]])
        self.assertEqual(heaviest_chain(BESIDE, [3, 4], "left"), [0, 1])
        self.assertEqual(heaviest_chain(BESIDE, [3, 4], "above"), [1])
        self.assertEqual(heaviest_chain(STACKED, [3, 4], "above"), [0, 1])
        self.assertEqual(heaviest_chain(P, [1, 1, 1, 1, 5], "left"), [3, 4, 1])
        self.assertEqual(heaviest_chain(P, [1, 1, 1, 1, 5], "above"), [0, 4, 2])
        self.assertEqual(heaviest_chain(P, [9, 1, 1, 1, 1], "left"), [0, 1])
        self.assertEqual(heaviest_chain(strip(60), [1] * 60, "left"), list(range(60)))
        self.assertEqual(heaviest_chain(tower(60)[::-1], [BIG] * 60, "above"), list(range(59, -1, -1)))

    def test_chains(self):
        layouts = SEVERAL + all_layouts(3, 3, 9) + [mixed(12, 1), mixed(30, 2), mixed(60, 3), mixed(60, 4)]
        for layout, (kind, at), seed in itertools.product(layouts, (("left", 0), ("above", 1)), range(2)):
            given = some_sizes(len(layout), seed)
            chain = heaviest_chain(layout, given, kind)
            pairs = pairs_that_lie(layout, kind)
            self.assertIsInstance(chain, list)
            for pair in itertools.pairwise(chain):
                self.assertIn(pair, pairs)
            total = sum(given[pane] for pane in chain)
            self.assertEqual(total, slow_length(layout, kind, given))
            self.assertEqual(total, least_desk(layout, given, given)[at])

    def test_wrong_arguments(self):
        for given, kind in (([1] * 5, "left"), ([1], "right"), (None, "")):
            assert_rejects_layouts(self, lambda thing: heaviest_chain(thing, given, kind))
        for thing, kind in itertools.product(NO_SIZES, ("left", "above", "right")):
            assert_rejects(self, lambda: heaviest_chain(P, thing, kind), InvalidSizes, repr(thing))
        for word in ("", "right", "below", "Left", "left ", "upright", "level", "sides", "0"):
            assert_rejects(self, lambda: heaviest_chain(P, [1] * 5, word), InvalidWord, word)


class LeastCornersTest(unittest.TestCase):
    def test_corners(self):
        self.assertEqual(least_corners(ONE, [4], [9]), [(0, 0, 4, 9)])
        self.assertEqual(least_corners(BESIDE, [3, 4], [5, 2]), [(0, 0, 3, 5), (3, 0, 7, 5)])
        self.assertEqual(least_corners(P, [1] * 5, [1] * 5), P)
        self.assertEqual(least_corners(scaled(P, 10 ** 29), [1] * 5, [1] * 5), P)
        self.assertEqual(least_corners(strip(60), [1] * 60, [1] * 60), strip(60))
        # Both cuts come to stand at 1, so that four panes meet.
        self.assertEqual(least_corners(SHIFTED, [1] * 4, [1] * 4),
                         [(0, 0, 1, 1), (1, 0, 2, 1), (0, 1, 1, 2), (1, 1, 2, 2)])

    def test_as_the_document_tells_them(self):
        for layout in SEVERAL + all_layouts(3, 3, 9)[::3] + [mixed(12, 1), mixed(30, 2), mixed(60, 3)]:
            widths, heights = some_sizes(len(layout), 5), some_sizes(len(layout), 6)
            corners = least_corners(layout, widths, heights)
            desk = least_desk(layout, widths, heights)
            self.assertIs(tiles(corners, desk), True, repr(layout))
            self.assertIs(keep_sizes(corners, widths, heights), True)
            for low, way, given in ((0, "left", widths), (1, "above", heights)):
                pairs = pairs_that_lie(layout, way)
                for pane in range(len(layout)):
                    # As small as can be: right behind the farthest of the panes that lie before it.
                    starts = [corners[first][low] + given[first] for first, second in pairs if second == pane]
                    ends = [corners[second][low] for first, second in pairs if first == pane]
                    self.assertEqual(corners[pane][low], max(starts, default=0))
                    self.assertEqual(corners[pane][low + 2], min(ends, default=desk[low]))

    def test_layouts_again(self):
        found = 0
        for layout in all_layouts(3, 3, 9) + [mixed(30, 2), mixed(60, 4)]:
            corners = least_corners(layout, some_sizes(len(layout), 7), some_sizes(len(layout), 8))
            if is_layout(corners):
                found += 1
                self.assertIs(lie_alike(layout, corners), True)
        self.assertGreater(found, 100)


class FitsDeskTest(unittest.TestCase):
    def test_desks(self):
        for layout in SEVERAL + [mixed(30, 2), mixed(60, 3), strip(60)]:
            widths, heights = some_sizes(len(layout), 3), some_sizes(len(layout), 4)
            width, height = least_desk(layout, widths, heights)
            for wide, high in itertools.product((-1, 0, 1, BIG), repeat=2):
                if width + wide >= 1 and height + high >= 1:
                    fits = fits_desk(layout, widths, heights, (width + wide, height + high))
                    self.assertIs(fits, wide >= 0 and high >= 0)

    def test_against_all_tilings(self):
        for layout, desk in itertools.product((P, CUT, SHIFTED, BESIDE), ((2, 3), (3, 3), (3, 2), (4, 3))):
            for seed in range(6):
                widths = [1 + size // 6 for size in some_sizes(len(layout), seed)]
                heights = [1 + size // 6 for size in some_sizes(len(layout), seed + 9)]
                found = all_corners(layout, desk, widths, heights)
                self.assertIs(fits_desk(layout, widths, heights, desk), found != [], repr((layout, desk)))


class GreatestCornersTest(unittest.TestCase):
    def test_corners(self):
        self.assertEqual(greatest_corners(ONE, [4], [9], (4, 9)), [(0, 0, 4, 9)])
        self.assertEqual(greatest_corners(ONE, [1], [1], (BIG, 5)), [(0, 0, BIG, 5)])
        self.assertEqual(greatest_corners(BESIDE, [3, 4], [5, 2], (9, 6)), [(0, 0, 5, 6), (5, 0, 9, 6)])
        self.assertEqual(greatest_corners(P, [1] * 5, [1] * 5, (3, 3)), P)
        self.assertEqual(greatest_corners(P, [1] * 5, [1] * 5, (10, 20)),
                         [(0, 0, 9, 18), (9, 0, 10, 19), (8, 19, 10, 20), (0, 18, 8, 20), (8, 18, 9, 19)])
        # Both cuts come to stand at 1, so that four panes meet.
        self.assertEqual(greatest_corners(SHIFTED, [1] * 4, [1] * 4, (2, 2)),
                         [(0, 0, 1, 1), (1, 0, 2, 1), (0, 1, 1, 2), (1, 1, 2, 2)])

    def test_as_the_document_tells_them(self):
        for layout in SEVERAL + all_layouts(3, 3, 9)[::3] + [mixed(12, 1), mixed(30, 2), mixed(60, 3)]:
            widths, heights = some_sizes(len(layout), 5), some_sizes(len(layout), 6)
            least = least_desk(layout, widths, heights)
            for desk in (least, (least[0] + 3, least[1] + BIG)):
                corners = greatest_corners(layout, widths, heights, desk)
                self.assertIs(tiles(corners, desk), True, repr(layout))
                self.assertIs(keep_sizes(corners, widths, heights), True)
                for low, way, given in ((0, "left", widths), (1, "above", heights)):
                    pairs = pairs_that_lie(layout, way)
                    for pane in range(len(layout)):
                        # As great as can be: right before the first of the panes that lie behind it.
                        ends = [corners[second][low + 2] - given[second] for first, second in pairs if first == pane]
                        starts = [corners[first][low + 2] for first, second in pairs if second == pane]
                        self.assertEqual(corners[pane][low + 2], min(ends, default=desk[low]))
                        self.assertEqual(corners[pane][low], max(starts, default=0))


class RoomsOfTest(unittest.TestCase):
    def test_rooms(self):
        self.assertEqual(rooms_of(ONE, [4], [9], (4, 9)), [])
        self.assertEqual(rooms_of(BESIDE, [3, 4], [5, 2], (9, 6)), [(3, 5)])
        self.assertEqual(rooms_of(STACKED, [3, 4], [5, 2], (9, 9)), [(5, 7)])
        self.assertEqual(rooms_of(P, [1] * 5, [1] * 5, (3, 3)), [(1, 1), (2, 2), (1, 1), (2, 2)])
        # The level segments come first.
        self.assertEqual(rooms_of(P, [1] * 5, [1] * 5, (10, 20)), [(1, 18), (2, 19), (1, 8), (2, 9)])
        self.assertEqual(rooms_of(strip(60), [1] * 60, [1] * 60, (70, 1)), [(x, x + 10) for x in range(1, 60)])
        self.assertEqual(rooms_of(BESIDE, [BIG, 1], [1, 1], (2 * BIG, 1)), [(BIG, 2 * BIG - 1)])

    def test_against_all_tilings(self):
        layouts = [P, CUT, SHIFTED, BESIDE, ONE] + [drawn_layout(plan) for plan in all_plans(3) + all_plans(4)[::3]]
        for layout, desk in itertools.product(layouts, ((3, 3), (4, 3))):
            for seed in range(3):
                widths = [1 + size // 7 for size in some_sizes(len(layout), seed)]
                heights = [1 + size // 7 for size in some_sizes(len(layout), seed + 9)]
                found = [places_in(layout, corners) for corners in all_corners(layout, desk, widths, heights)]
                if not found:
                    assert_rejects(self, lambda: rooms_of(layout, widths, heights, desk), TooSmall)
                    continue
                rooms = rooms_of(layout, widths, heights, desk)
                self.assertEqual(rooms, [(min(places), max(places)) for places in zip(*found)], repr(layout))
                for (least, greatest), places in zip(rooms, zip(*found)):
                    self.assertEqual(sorted(set(places)), list(range(least, greatest + 1)))

    def test_the_ends_of_rooms(self):
        for layout in SEVERAL + [mixed(12, 1), mixed(30, 2), mixed(60, 3), mixed(60, 4)]:
            widths, heights = some_sizes(len(layout), 5), some_sizes(len(layout), 6)
            least = least_desk(layout, widths, heights)
            desk = (least[0] + 3, least[1] + 10 ** 29)
            rooms = rooms_of(layout, widths, heights, desk)
            lows = places_in(layout, least_corners(layout, widths, heights))
            highs = places_in(layout, greatest_corners(layout, widths, heights, desk))
            self.assertEqual(rooms, list(zip(lows, highs)))
            # On the least desk a room is where a heaviest chain leaves one.
            self.assertIn(0, [high - low for low, high in rooms_of(layout, widths, heights, least)] or [0])

    def test_corners_with_a_segment_at_each_place(self):
        for layout in SEVERAL + [mixed(9, 1), mixed(14, 2)]:
            widths, heights = some_sizes(len(layout), 5), some_sizes(len(layout), 6)
            width, height = least_desk(layout, widths, heights)
            desk = (width + 2, height + 3)
            rooms = rooms_of(layout, widths, heights, desk)
            pairs = [pairs_that_lie(layout, way) for way in ("left", "above")]
            for at, (low, high) in enumerate(rooms):
                for place in range(low, high + 1):
                    corners = corners_with(layout, widths, heights, desk, at, place)
                    self.assertIs(tiles(corners, desk), True)
                    self.assertIs(keep_sizes(corners, widths, heights), True)
                    self.assertIs(lies_so(*pairs, corners), True)
                    self.assertEqual(places_in(layout, corners)[at], place)
                for place in (low - 1, high + 1):
                    self.assertIsNone(corners_with(layout, widths, heights, desk, at, place))


class WrongArgumentsTest(unittest.TestCase):
    def test_wrong_layouts(self):
        for widths, heights in (([1] * 5, [1] * 5), (None, [])):
            for function in (least_desk, least_corners):
                assert_rejects_layouts(self, lambda thing: function(thing, widths, heights))
            for function in (fits_desk, greatest_corners, rooms_of):
                for desk in ((9, 9), None):
                    assert_rejects_layouts(self, lambda thing: function(thing, widths, heights, desk))

    def test_wrong_sizes(self):
        for thing, other in itertools.product(NO_SIZES, ([1] * 5, None, [0])):
            for function in (least_desk, least_corners):
                assert_rejects(self, lambda: function(P, thing, other), InvalidSizes, repr(thing))
                assert_rejects(self, lambda: function(P, [1] * 5, thing), InvalidSizes, repr(thing))
            for function in (fits_desk, greatest_corners, rooms_of):
                for desk in ((9, 9), (1, 1), None):
                    assert_rejects(self, lambda: function(P, thing, other, desk), InvalidSizes, repr(thing))
                    assert_rejects(self, lambda: function(P, [1] * 5, thing, desk), InvalidSizes, repr(thing))

    def test_wrong_desks(self):
        for thing in NO_DESKS:
            for function in (fits_desk, greatest_corners, rooms_of):
                assert_rejects(self, lambda: function(P, [1] * 5, [1] * 5, thing), InvalidSizes, repr(thing))

    def test_too_small(self):
        for layout in SEVERAL + [mixed(30, 2), mixed(60, 3)]:
            widths = [size + 1 for size in some_sizes(len(layout), 3)]
            heights = [size + 10 ** 29 for size in some_sizes(len(layout), 4)]
            width, height = least_desk(layout, widths, heights)
            for function in (greatest_corners, rooms_of):
                self.assertEqual(len(function(layout, widths, heights, (width, height))) - len(layout),
                                 0 if function == greatest_corners else -1)
                for desk in ((width - 1, height), (width, height - 1), (width - 1, height - 1), (1, BIG ** 2)):
                    assert_rejects(self, lambda: function(layout, widths, heights, desk), TooSmall)
                    self.assertIs(fits_desk(layout, widths, heights, desk), False)

    def test_what_is_returned_may_be_passed_back(self):
        widths, heights = [BIG] * 60, [BIG - 1] * 60
        layout = mixed(60, 3)
        desk = least_desk(layout, widths, heights)
        self.assertGreater(desk[0], 10 ** 30)
        self.assertIs(fits_desk(layout, widths, heights, desk), True)
        corners = greatest_corners(strip(60), widths, heights, (60 * BIG, BIG))
        self.assertEqual(least_desk(corners, widths, heights), (60 * BIG, BIG - 1))
        self.assertEqual(plan_of(corners), list(range(60)))


if __name__ == "__main__":
    unittest.main()
