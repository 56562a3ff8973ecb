"""Tests over the whole program: promises 1 to 4, and that what one function returns can be passed to another one."""

import importlib
import inspect
import itertools
import unittest

from desks import BIG, LAYOUTS, P, SHIFTED, assert_rejects, grown, least_meeting, lists_in, mixed, scaled, strip
from paneplans.changes import mirrored_plan, split_plan, swung_plan, turned_plans, whole_pairs
from paneplans.closing import alone_sides, closed_layout, closed_plan, middle_panes, open_sides
from paneplans.codes import code_of, plan_of_code, pushed_plan, without_last
from paneplans.counts import count_borders, count_cut, count_plans, count_touching, nth_plan, plan_index, ways_to_touch
from paneplans.cuts import bad_four, cut_tree, pinwheel_in, shows_pinwheel, shows_tree
from paneplans.errors import InvalidCode, InvalidText, Meeting
from paneplans.joints import drag_room, dragged_layout, joints_of, touch_alike, touch_words
from paneplans.layouts import desk_of, is_layout, panes_along, segment_at, segments_of, touching_pairs
from paneplans.live import Desk
from paneplans.plans import borders_of, drawn_layout, is_plan, pattern_in, segments_in, way_in
from paneplans.relations import (
    chain_of, falling_row, lie_alike, plan_of, rising_row, same_plan, shows_chain, way_of)
from paneplans.session import session
from paneplans.sizes import fits_desk, greatest_corners, heaviest_chain, least_corners, least_desk, rooms_of
from paneplans.texts import read_code, read_layout, read_plan, write_code, write_layout, write_plan
from rows import P_CODE, P_PLAN, PLANS, all_plans, mixed_plan

MODULES = ["errors", "layouts", "relations", "plans", "codes", "counts", "cuts", "closing", "changes", "sizes",
           "joints", "live", "texts", "session"]
SOME_PLANS = PLANS + [plan for many in range(1, 6) for plan in all_plans(many)]


def closings(layout):
    """Return (pane, side, layout) for each way in which a pane can be closed without a meeting."""
    found = []
    for pane in range(len(layout)):
        for side in open_sides(layout, pane):
            try:
                found.append((pane, side, closed_layout(layout, pane, side)))
            except Meeting:
                pass
    return found


class ModulesTest(unittest.TestCase):
    def test_each_module_of_the_document(self):
        for name in MODULES:
            module = importlib.import_module("paneplans." + name)
            self.assertTrue(inspect.getdoc(module))


class LayoutsTest(unittest.TestCase):
    def test_layouts_and_joints(self):
        for layout in LAYOUTS:
            words = touch_words(layout)
            for segment, sides in zip(segments_of(layout), words):
                ahead, behind = panes_along(layout, segment)
                self.assertEqual(len(joints_of(layout, segment)), len(ahead) + len(behind) - 2)
                self.assertEqual([side for _, side in joints_of(layout, segment)], sides)
                side = "right" if segment[0] == "upright" else "bottom"
                self.assertEqual({segment_at(layout, pane, side) for pane in ahead}, {segment})
                least, greatest = drag_room(layout, segment)
                moved = dragged_layout(layout, segment, segment[1])
                self.assertEqual((moved, least <= segment[1] <= greatest), (layout, True))

    def test_dragged_layouts_lie_alike(self):
        for layout in (scaled(P, 5), scaled(SHIFTED, 5), mixed(30, 2)):
            for segment in segments_of(layout):
                for place in drag_room(layout, segment):
                    try:
                        moved = dragged_layout(layout, segment, place)
                    except Meeting as meeting:
                        self.assertIn(place, (meeting.x, meeting.y))
                        continue
                    self.assertIs(is_layout(moved), True)
                    self.assertEqual(desk_of(moved), desk_of(layout))
                    self.assertIs(lie_alike(moved, layout), True)
                    self.assertEqual(touch_alike(moved, layout), touching_pairs(moved) == touching_pairs(layout))
                    back = next(other for other in segments_of(moved)
                                if panes_along(moved, other) == panes_along(layout, segment))
                    self.assertEqual(dragged_layout(moved, back, segment[1]), layout)

    def test_relations_and_plans(self):
        for layout in LAYOUTS:
            falling, plan = falling_row(layout), plan_of(layout)
            self.assertEqual([falling[pane] for pane in plan], rising_row(layout))
            self.assertIs(same_plan(layout, drawn_layout(plan)), True)
            self.assertIs(lie_alike([layout[pane] for pane in falling], drawn_layout(plan)), True)
            for first, second in itertools.pairwise(range(len(layout))):
                way = way_of(layout, falling[first], falling[second])
                self.assertEqual(way, way_in(plan, first, second))
                self.assertIs(shows_chain(layout, chain_of(layout, first, second)), True)

    def test_sizes(self):
        for layout in LAYOUTS:
            widths, heights = [x1 - x0 for x0, _, x1, _ in layout], [y1 - y0 for _, y0, _, y1 in layout]
            desk = desk_of(layout)
            # What the panes have, fits; so it is no more than what there is.
            self.assertIs(fits_desk(layout, widths, heights, desk), True)
            least = least_desk(layout, widths, heights)
            self.assertEqual(least, desk)
            self.assertEqual(least_corners(layout, widths, heights), layout)
            self.assertEqual(greatest_corners(layout, widths, heights, least), layout)
            rooms = [(place, place) for _, place, _, _ in segments_of(layout)]
            self.assertEqual(rooms_of(layout, widths, heights, least), rooms)
            chain = heaviest_chain(layout, widths, "left")
            self.assertEqual(sum(widths[pane] for pane in chain), desk[0])
            if len(chain) > 1:
                self.assertEqual({way_of(layout, *pair) for pair in itertools.pairwise(chain)}, {"left"})


class PlansTest(unittest.TestCase):
    def test_plans_codes_and_counts(self):
        for plan in SOME_PLANS:
            many = len(plan)
            self.assertIs(is_plan(plan), True)
            self.assertIsNone(pattern_in(plan))
            self.assertEqual(nth_plan(many, plan_index(plan)), plan)
            self.assertEqual(plan_of_code(code_of(plan)), plan)
            _, _, right, lower = borders_of(plan)
            self.assertGreaterEqual(count_borders(many, len(right), len(lower)), 1)
            if many > 1:
                rest, number = without_last(plan)
                self.assertEqual(pushed_plan(rest, number), plan)
            self.assertEqual(len(segments_in(plan)), many - 1)

    def test_counts_of_changes(self):
        for many in range(1, 6):
            plans = all_plans(many)
            self.assertEqual(count_plans(many), len(plans))
            self.assertEqual(count_cut(many), sum(bad_four(plan) is None for plan in plans))
            self.assertEqual(count_touching(many), sum(ways_to_touch(plan) for plan in plans))
            # Mirroring exchanges plans with one another.
            for way in ("sides", "ends", "corners"):
                self.assertEqual(sorted(mirrored_plan(plan, way) for plan in plans), plans)
            self.assertEqual(sorted({tuple(plan) for one in plans for plan in turned_plans(one)}), [*map(tuple, plans)])

    def test_cuts(self):
        for plan in SOME_PLANS:
            layout = drawn_layout(plan)
            tree, ring = cut_tree(plan), pinwheel_in(layout)
            self.assertEqual([tree is None, bad_four(plan) is None], [ring is not None, ring is None])
            self.assertEqual([shows_tree(plan, tree), shows_pinwheel(layout, ring)], [ring is None, ring is not None])
            # What can be cut can be closed, all but the only pane.
            if tree is not None:
                self.assertEqual(middle_panes(plan), [])

    def test_closings_and_changes(self):
        for plan in [plan for plan in SOME_PLANS if 1 < len(plan) < 60]:
            layout = drawn_layout(plan)
            for pane, side, left in closings(layout):
                self.assertIn(side, alone_sides(plan, pane))
                self.assertNotIn(pane, middle_panes(plan))
                self.assertEqual(plan_of(left), closed_plan(plan, pane))
                self.assertIs(same_plan(left, drawn_layout(closed_plan(plan, pane))), True)
            for pane in range(len(plan)):
                for kind in ("left", "above"):
                    found = split_plan(plan, pane, kind)
                    other = split_plan(plan, pane, "left" if kind == "above" else "above")
                    self.assertIn((pane, pane + 1), whole_pairs(found))
                    self.assertEqual(swung_plan(found, pane), other)
                    # Either of the two can be closed: what is left is as before.
                    self.assertEqual([closed_plan(found, pane), closed_plan(found, pane + 1)], [plan, plan])

    def test_the_last_pane(self):
        for plan in SOME_PLANS[1:]:
            if len(plan) > 1:
                last = len(plan) - 1
                self.assertEqual(closed_plan(plan, last), without_last(plan)[0])
                self.assertIs(same_plan(drawn_layout(plan), grown(code_of(plan))), True)


class LiveTest(unittest.TestCase):
    def test_desks_and_all_that_takes_layouts(self):
        desk = Desk(BIG, 10 ** 6)
        for index, plan in enumerate(mixed_plan(40, 2)):
            name = plan % len(desk.names)
            x0, y0, x1, y1 = desk.panes[name]
            kind = "left" if index % 2 and x1 - x0 > 1 else "above"
            place = (x0 + x1) // 2 + index if kind == "left" else (y0 + y1) // 2
            try:
                desk.split(desk.names[name], kind, place)
            except Meeting as meeting:
                self.assertIn(place, (meeting.x, meeting.y))
        panes, names = desk.panes, desk.names
        self.assertEqual(desk_of(panes), (desk.width, desk.height))
        self.assertEqual(desk.falling(), [names[pane] for pane in falling_row(panes)])
        self.assertEqual(desk.rising(), [names[pane] for pane in rising_row(panes)])
        for pane, side, left in closings(panes):
            twin = desk.twin()
            twin.close(names[pane], side)
            self.assertEqual(twin.panes, left)
        # Split panes can be cut again, and are all that whole cuts make.
        self.assertIsNotNone(cut_tree(plan_of(panes)))
        self.assertIsNone(pinwheel_in(panes))

    def test_a_layout_can_be_had_by_its_tree(self):
        def cut(desk, name, tree):
            if isinstance(tree, tuple):
                kind, first, *rest = tree
                low = 0 if kind == "left" else 1
                corners = desk.panes[desk.names.index(name)]
                starts = layout[leaf(rest[0])][low]
                self.assertGreater(starts, corners[low])
                desk.split(name, kind, starts)
                new = desk.names[-1]
                cut(desk, name, first)
                cut(desk, new, (kind, *rest) if len(rest) > 1 else rest[0])

        def leaf(tree):
            return leaf(tree[1]) if isinstance(tree, tuple) else tree

        for plan in all_plans(5) + all_plans(4):
            layout = drawn_layout(plan)
            if cut_tree(plan) is not None:
                desk = Desk(*desk_of(layout))
                cut(desk, 0, cut_tree(plan))
                self.assertEqual(plan_of(desk.panes), plan)
                self.assertEqual(sorted(desk.panes), sorted(layout))

    def test_sessions_and_texts(self):
        rows = "desk 9 9\nsplit 0 left 4\nsplit 1 above 6\nsplit 0 above 3\nplan\nfalling\n"
        rows = rows + "pane 0\npane 1\npane 2\npane 3"
        found = session(rows).split("\n")
        plan, layout = read_plan(found[4]), read_layout(" ".join(found[6:]))
        self.assertEqual(plan_of(layout), plan)
        self.assertEqual(found[5], " ".join(map(str, falling_row(layout))))
        self.assertEqual(write_plan(plan), found[4])
        self.assertEqual(write_layout(layout), " ".join(found[6:]))


class TextsTest(unittest.TestCase):
    def test_texts_of_what_is_returned(self):
        for plan in SOME_PLANS:
            self.assertEqual(read_code(write_code(code_of(read_plan(write_plan(plan))))), code_of(plan))
            self.assertEqual(plan_of(read_layout(write_layout(drawn_layout(plan)))), plan)
        self.assertEqual(write_code(code_of(plan_of(P))), write_code(P_CODE))
        self.assertEqual(write_plan(plan_of(P)), write_plan(P_PLAN))

    def test_fields_of_errors(self):
        text = write_layout(strip(9)) + " 8,0,10,1"
        place = assert_rejects(self, lambda: read_layout(text), InvalidText).place
        self.assertEqual(read_layout(" ".join(text.split(" ")[:place])), strip(9))
        code = P_CODE + [3, 9, 9]
        place = assert_rejects(self, lambda: plan_of_code(code), InvalidCode).place
        self.assertIs(is_plan(plan_of_code(code[:place])), True)

    def test_more_digits(self):
        # Sums of the greatest sizes have more than thirty digits, and can be passed on.
        sizes = [BIG] * 60
        desk = least_desk(strip(60), sizes, sizes)
        layout = greatest_corners(strip(60), sizes, sizes, desk)
        self.assertEqual(desk, (60 * BIG, BIG))
        self.assertEqual(drag_room(layout, segments_of(layout)[0]), (1, 2 * BIG - 1))
        self.assertEqual(plan_of(closed_layout(layout, 7, "left")), list(range(59)))
        self.assertEqual(Desk(*desk).panes, [(0, 0, *desk)])
        self.assertEqual(write_layout(layout[:1]).count(","), 3)
        wide = [(0, 0, 10 ** 31, 2 * 10 ** 31), (10 ** 31, 0, 2 * 10 ** 31, 2 * 10 ** 31)]
        moved = dragged_layout(wide, ("upright", 10 ** 31, 0, 2 * 10 ** 31), 5)
        self.assertEqual(moved, [(0, 0, 5, 2 * 10 ** 31), (5, 0, 2 * 10 ** 31, 2 * 10 ** 31)])


class NewListsTest(unittest.TestCase):
    def test_no_list_is_returned_twice(self):
        layout, plan, desk = mixed(30, 2), mixed_plan(30, 2), Desk(9, 9)
        desk.split(0, "left", 4)
        segment = segments_of(layout)[0]
        calls = [lambda: segments_of(layout), lambda: panes_along(layout, segment), lambda: touching_pairs(layout),
                 lambda: falling_row(layout), lambda: plan_of(layout), lambda: drawn_layout(plan),
                 lambda: segments_in(plan), lambda: borders_of(plan), lambda: code_of(plan),
                 lambda: without_last(plan), lambda: pinwheel_in(layout), lambda: alone_sides(plan, 0),
                 lambda: middle_panes(plan), lambda: whole_pairs(plan), lambda: turned_plans(plan),
                 lambda: mirrored_plan(plan, "corners"), lambda: touch_words(layout),
                 lambda: joints_of(layout, segment), lambda: dragged_layout(layout, segment, segment[1]),
                 lambda: desk.names, lambda: desk.panes, desk.falling, desk.rising, lambda: read_plan(write_plan(plan)),
                 lambda: closings(layout)]
        for call in calls:
            found = lists_in([call(), call(), layout, plan, desk.names, desk.panes])
            self.assertEqual(len({id(each) for each in found}), len(found))

    def test_a_list_that_was_passed_may_be_changed_later(self):
        layout = scaled(P, 2)
        segments = segments_of(layout)
        moved = dragged_layout(layout, segments[0], segments[0][1])
        left = closed_layout(layout, 0, "bottom")
        kept = [list(moved), list(left)]
        layout.append("spoilt")
        layout[0] = None
        self.assertEqual([moved, left], kept)
        self.assertIsNone(least_meeting(moved))


if __name__ == "__main__":
    unittest.main()
