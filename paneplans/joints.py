"""Joints: where segments end at other ones, and where a segment alone can be moved to.

Functions named find_.. rely on valid arguments.
"""

from paneplans.checks import check_number
from paneplans.layouts import check_layout, check_no_meeting, find_all_sides, find_along, find_touching, move_side
from paneplans.relations import is_alike


def joints_of(layout, segment):
    """Return the tuples (place, side): where other segments end at one, and from which side; ascending."""
    check_layout(layout)
    ahead, behind = find_along(layout, segment)
    return find_joints(layout, segment[0], ahead, behind)


def touch_words(layout):
    """Return for each segment, ascending, the list of the sides from which others end along it."""
    check_layout(layout)
    words = []
    for segment, ahead, behind in find_all_sides(layout):
        words.append([side for _, side in find_joints(layout, segment[0], ahead, behind)])
    return words


def touch_alike(layout, other):
    """Tell whether two layouts lie alike and the same panes of them touch."""
    check_layout(layout)
    check_layout(other)
    return is_alike(layout, other) and find_touching(layout) == find_touching(other)


def drag_room(layout, segment):
    """Return the least and the greatest place to which a segment alone can be moved."""
    check_layout(layout)
    ahead, behind = find_along(layout, segment)
    return find_room(layout, segment[0], ahead, behind)


def dragged_layout(layout, segment, place):
    """Return the layout with a segment, and nothing else, moved to a place."""
    check_layout(layout)
    ahead, behind = find_along(layout, segment)
    least, greatest = find_room(layout, segment[0], ahead, behind)
    check_number(place, least, greatest)
    panes = find_dragged(layout, segment[0], ahead, behind, place)
    check_no_meeting(panes)
    return panes


def find_joints(layout, kind, ahead, behind):
    """Return the joints of a segment with panes along its two sides, ascending."""
    end, before, after = (3, "left", "right") if kind == "upright" else (2, "above", "below")
    # The last pane on a side ends where this segment does, each other one where another segment joins it.
    joints = [(layout[pane][end], before) for pane in ahead[:-1]]
    return sorted(joints + [(layout[pane][end], after) for pane in behind[:-1]])


def find_room(layout, kind, ahead, behind):
    """Return the least and the greatest place of a segment at which all panes keep a size of 1."""
    far = find_far_side(kind)
    least = max([layout[pane][far - 2] for pane in ahead]) + 1
    return least, min([layout[pane][far] for pane in behind]) - 1


def find_dragged(layout, kind, ahead, behind, place):
    """Return the panes with the segment between some ahead of it and some behind it at a place."""
    far = find_far_side(kind)
    panes = list(layout)
    for pane in ahead:
        panes[pane] = move_side(panes[pane], far, place)
    for pane in behind:
        panes[pane] = move_side(panes[pane], far - 2, place)
    return panes


def find_far_side(kind):
    """Return the number of the side with which panes lie ahead of a segment of a kind."""
    return 2 if kind == "upright" else 3
