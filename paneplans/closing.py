"""Closing: taking a pane away so that the panes at the other side of a segment take its room.

Functions named find_.. rely on valid arguments.
"""

from paneplans.checks import check_pane, check_word
from paneplans.errors import InvalidPane, NotAlone
from paneplans.layouts import SIDES, check_layout, check_no_meeting, find_all_sides, find_line_at, move_side
from paneplans.plans import check_plan, find_plan_segments, find_without

# For each of SIDES the number of the side across a pane.
ACROSS = (2, 3, 0, 1)


def alone_sides(plan, pane):
    """Return the sides at which a pane of a plan is alone: of left, top, right, bottom."""
    check_plan(plan)
    check_pane(pane, len(plan))
    return find_alone_sides(find_plan_segments(plan), pane)


def open_sides(layout, pane):
    """Return the sides at which a pane of a layout is alone, by which it can be closed."""
    check_layout(layout)
    check_pane(pane, len(layout))
    lines = [(segment[0], ahead, behind) for segment, ahead, behind in find_all_sides(layout)]
    return find_alone_sides(lines, pane)


def closed_layout(layout, pane, side):
    """Return the panes that are left, in their sequence, when a pane is closed by a side."""
    check_layout(layout)
    check_pane(pane, len(layout))
    check_word(side, SIDES)
    line = find_line_at(layout, pane, side)
    if line is None or line[1] != [pane]:
        raise NotAlone("the pane is not alone at this side")
    panes = find_closed(layout, pane, side, line[2])
    check_no_meeting(panes)
    return panes


def closed_plan(plan, pane):
    """Return the plan of what is left when a pane is closed."""
    check_plan(plan)
    check_pane(pane, len(plan))
    if not find_alone_sides(find_plan_segments(plan), pane):
        raise InvalidPane("this pane cannot be closed")
    # By whichever side a pane is closed, the others lie as before.
    return find_without(plan, pane)


def middle_panes(plan):
    """Return the panes that cannot be closed, ascending; none for one pane."""
    check_plan(plan)
    if len(plan) == 1:
        return []
    sides = [side for _, ahead, behind in find_plan_segments(plan) for side in (ahead, behind)]
    alone = [side[0] for side in sides if len(side) == 1]
    return [pane for pane in range(len(plan)) if pane not in alone]


def find_alone_sides(lines, pane):
    """Return the sides at which a pane is alone, of all segments as (kind, ahead, behind)."""
    found = []
    for kind, ahead, behind in lines:
        if behind == [pane]:
            found.append("left" if kind == "upright" else "top")
        if ahead == [pane]:
            found.append("right" if kind == "upright" else "bottom")
    return [side for side in SIDES if side in found]


def find_closed(layout, pane, side, others):
    """Return the panes that are left when those beyond a side of a pane are drawn out over its room."""
    # They come to end where the pane's side across from this one was.
    across = ACROSS[SIDES.index(side)]
    place = layout[pane][across]
    left = list(enumerate(layout))
    del left[pane]
    return [move_side(corners, across, place) if other in others else corners for other, corners in left]
