"""Tests of the sequence in which arguments are checked: promise 2, for all functions and methods of the interface."""

import itertools
import unittest

from desks import BIG, P, assert_rejects, scaled, strip
from paneplans import changes, closing, codes, counts, joints, layouts, plans, relations, sizes
from paneplans.errors import (
    InvalidIndex, InvalidLayout, InvalidNumber, InvalidPane, InvalidPlan, InvalidSegment, InvalidSizes, InvalidWord)
from paneplans.live import Desk
from rows import P_PLAN, mixed_plan

FULL = list(range(60))
WIDE = scaled(P, 3)
SEGMENT = ("upright", 6, 0, 6)
FIVE = [2, 1, 3, 1, 2]

# An argument: a valid value, wrong ones, and their error.
LAYOUT = (WIDE, ([], strip(61), WIDE[1:], WIDE + [(0, 0, 1, 1)], tuple(WIDE), None), InvalidLayout)
PLAN = (P_PLAN, ([], list(range(61)), [1, 3, 0, 2], [0, 2], [0, True], tuple(P_PLAN), 0), InvalidPlan)
# Where one pane more comes to a plan, one of 60 panes is wrong, too.
ROOMY_PLAN = (P_PLAN, PLAN[1] + (FULL, FULL[::-1], mixed_plan(60, 3)), InvalidPlan)
PANE = (0, (5, -1, BIG, -BIG), InvalidPane)
OTHER_PANE = (1, (0, 5, -1, -BIG), InvalidPane)
SEGMENT_OF_LAYOUT = (SEGMENT, (SEGMENT[:3], list(SEGMENT), ("level",) + SEGMENT[1:], ("upright", 6, 0, 3), 6, None),
                     InvalidSegment)
SIDE = ("bottom", ("", "below", "upper", "Bottom", "left "), InvalidWord)
KIND = ("left", ("", "right", "below", "upright", "left ", "top"), InvalidWord)
WAY = ("sides", ("", "side", "Ends", "left", "corners "), InvalidWord)
SIZES = (FIVE, ([], FIVE[1:], FIVE + [1], [2, 1, 0, 1, 2], [2, 1, True, 1, 2], tuple(FIVE), 5), InvalidSizes)
DESK = ((60, 60), ((60, 0), (60,), (60, True), [60, 60], 60, None), InvalidSizes)

TABLE = [
    (layouts.panes_along, [LAYOUT, SEGMENT_OF_LAYOUT]),
    (layouts.segment_at, [LAYOUT, PANE, SIDE]),
    (relations.way_of, [LAYOUT, PANE, OTHER_PANE]),
    (relations.chain_of, [LAYOUT, PANE, OTHER_PANE]),
    (relations.lie_alike, [LAYOUT, LAYOUT]),
    (relations.same_plan, [LAYOUT, LAYOUT]),
    (plans.way_in, [PLAN, PANE, OTHER_PANE]),
    (codes.pushed_plan, [ROOMY_PLAN, (1, (0, 4, -4, BIG, -BIG), InvalidNumber)]),
    (counts.count_borders, [(5, (0, 61, -1, BIG), InvalidNumber), (9, (), None), (-BIG, (), None)]),
    (counts.nth_plan, [(5, (0, 61, -1, BIG), InvalidNumber), (91, (92, -1, BIG), InvalidIndex)]),
    (closing.alone_sides, [PLAN, PANE]),
    (closing.open_sides, [LAYOUT, PANE]),
    (closing.closed_layout, [LAYOUT, PANE, SIDE]),
    (closing.closed_plan, [PLAN, (0, PANE[1] + (2,), InvalidPane)]),
    (changes.merged_plan, [(FULL, PLAN[1], InvalidPlan), (0, (60, -1, BIG), InvalidPane)]),
    (changes.swung_plan, [(FULL, PLAN[1], InvalidPlan), (0, (60, -1, BIG), InvalidPane)]),
    (changes.split_plan, [ROOMY_PLAN, PANE, KIND]),
    (changes.mirrored_plan, [PLAN, WAY]),
    (sizes.least_desk, [LAYOUT, SIZES, SIZES]),
    (sizes.heaviest_chain, [LAYOUT, SIZES, KIND]),
    (sizes.least_corners, [LAYOUT, SIZES, SIZES]),
    (sizes.fits_desk, [LAYOUT, SIZES, SIZES, DESK]),
    (sizes.greatest_corners, [LAYOUT, SIZES, SIZES, DESK]),
    (sizes.rooms_of, [LAYOUT, SIZES, SIZES, DESK]),
    (joints.joints_of, [LAYOUT, SEGMENT_OF_LAYOUT]),
    (joints.touch_alike, [LAYOUT, LAYOUT]),
    (joints.drag_room, [LAYOUT, SEGMENT_OF_LAYOUT]),
    (joints.dragged_layout, [LAYOUT, SEGMENT_OF_LAYOUT, (5, (0, 3, 9, -1, BIG), InvalidNumber)]),
]


def all_calls(arguments):
    """Return (values, error) for valid and wrong values in all combinations: the first wrong one gives the error."""
    choices = [[(valid, None)] + [(wrong, error) for wrong in wrongs] for valid, wrongs, error in arguments]
    for picked in itertools.product(*choices):
        errors = [error for _, error in picked if error is not None]
        yield [value for value, _ in picked], errors[0] if errors else None


class SequenceTest(unittest.TestCase):
    def check(self, function, arguments):
        """Check that a call with only valid arguments has an answer, and each other one the first wrong one's error."""
        for values, error in all_calls(arguments):
            if error is None:
                function(*values)
            else:
                assert_rejects(self, lambda: function(*values), error, repr((function.__name__, values)))

    def test_functions(self):
        for function, arguments in TABLE:
            with self.subTest(function=function.__name__):
                self.check(function, arguments)

    def test_methods(self):
        name = (0, (1, 2, -1, BIG), InvalidPane)
        place = (4, (0, 9, -1, BIG, -BIG), InvalidNumber)
        self.check(Desk, [(9, (0, -1, -BIG), InvalidNumber), (7, (0, -1, -BIG), InvalidNumber)])
        self.check(lambda *values: Desk(9, 7).split(*values), [name, KIND, place])

        def parted():
            desk = Desk(9, 7)
            desk.split(0, "left", 3)
            return desk

        others = (0, (2, -1, BIG), InvalidPane)
        # At the border of the desk there is no segment that could be dragged.
        side = ("right", SIDE[1] + ("left", "top", "bottom"), InvalidWord)
        self.check(lambda *values: parted().close(*values), [others, ("right", SIDE[1], InvalidWord)])
        self.check(lambda *values: parted().drag(*values), [others, side, place])
        self.check(lambda *values: parted().undo_to(*values), [(1, (2, -1, BIG), InvalidIndex)])

    def test_a_full_desk(self):
        desk = Desk(60, 1)
        for place in range(1, 60):
            desk.split(place - 1, "left", place)
        for name, kind, place in itertools.product((0, 59, 60, -1), KIND[1] + ("left",), (1, 0, BIG)):
            assert_rejects(self, lambda: desk.split(name, kind, place), InvalidPane)


if __name__ == "__main__":
    unittest.main()
