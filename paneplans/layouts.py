"""Layouts: their desk, their segments, and which of their panes touch.

A pane that is named is an index of the layout; its corners are the tuple that
stands there. Functions that take any object check it first; those below them,
named find_.., rely on a valid layout.
"""

from paneplans.checks import check_pane, check_word, is_number
from paneplans.errors import InvalidLayout, InvalidSegment

MOST_PANES = 60
SIDES = ("left", "top", "right", "bottom")


def is_layout(thing):
    """Tell whether any object is a layout."""
    return (is_list_of_items(thing) and find_bad_item(thing) is None
            and fills_desk(thing) and not has_meeting(thing))


def desk_of(layout):
    """Return the width and the height of a layout's desk."""
    check_layout(layout)
    return find_desk(layout)


def segments_of(layout):
    """Return the segments of a layout, ascending."""
    check_layout(layout)
    return find_segments(layout)


def panes_along(layout, segment):
    """Return the panes above or left of a segment, and those below or right of it."""
    check_layout(layout)
    check_segment(layout, segment)
    return find_panes_along(layout, segment)


def segment_at(layout, pane, side):
    """Return the segment at a side of a pane, None at the border."""
    check_layout(layout)
    check_pane(pane, len(layout))
    check_word(side, SIDES)
    kind = "upright" if side in ("left", "right") else "level"
    (start, end), (first, last) = spans(layout[pane], kind)
    place = start if side in ("left", "top") else end
    for segment in find_segments(layout):
        if segment[:2] == (kind, place) and segment[2] <= first and last <= segment[3]:
            return segment
    return None


def touching_pairs(layout):
    """Return the pairs of panes that touch, ascending."""
    check_layout(layout)
    indices = range(len(layout))
    return [(first, second) for first in indices for second in indices
            if first < second and touch(layout[first], layout[second])]


def check_layout(layout):
    """Raise InvalidLayout unless this is a layout."""
    if is_layout(layout):
        return
    bad = find_bad_item(layout) if is_list_of_items(layout) else None
    raise InvalidLayout(bad)


def check_segment(layout, segment):
    """Raise InvalidSegment unless this is a segment of the layout."""
    if not is_line(segment) or segment not in find_segments(layout):
        raise InvalidSegment("this is no segment of the layout")


def is_list_of_items(thing):
    """Tell whether any object is a list of as many items as a layout may have."""
    return isinstance(thing, list) and 1 <= len(thing) <= MOST_PANES


def is_pane(thing):
    """Tell whether any object is the tuple of the corners of a pane."""
    if not isinstance(thing, tuple) or len(thing) != 4:
        return False
    if not all(is_number(corner) for corner in thing):
        return False
    x0, y0, x1, y1 = thing
    return 0 <= x0 < x1 and 0 <= y0 < y1


def is_line(thing):
    """Tell whether any object is a tuple with integers where a segment has them."""
    # True == 1 in Python, so comparing with the segments would not be enough.
    return isinstance(thing, tuple) and all(is_number(place) for place in thing[1:])


def find_bad_item(items):
    """Return the index of the first item that is no pane or overlaps an earlier one, or None."""
    for index, item in enumerate(items):
        if not is_pane(item) or any(overlap(item, earlier) for earlier in items[:index]):
            return index
    return None


def overlap(corners, others):
    """Tell whether two panes have more than sides in common."""
    x0, y0, x1, y1 = corners
    left, top, right, bottom = others
    return x0 < right and left < x1 and y0 < bottom and top < y1


def touch(corners, others):
    """Tell whether the sides of two panes that do not overlap share a stretch."""
    x0, y0, x1, y1 = corners
    left, top, right, bottom = others
    width = min(x1, right) - max(x0, left)
    height = min(y1, bottom) - max(y0, top)
    return (width == 0 and height > 0) or (height == 0 and width > 0)


def fills_desk(panes):
    """Tell whether panes that do not overlap leave no gap on their desk."""
    width, height = find_desk(panes)
    return sum((x1 - x0) * (y1 - y0) for x0, y0, x1, y1 in panes) == width * height


def has_meeting(panes):
    """Tell whether some point is a corner of four panes."""
    counts = {}
    for x0, y0, x1, y1 in panes:
        for corner in ((x0, y0), (x1, y0), (x0, y1), (x1, y1)):
            counts[corner] = counts.get(corner, 0) + 1
    return max(counts.values()) == 4


def find_desk(panes):
    """Return the width and the height of the desk from (0, 0) to the farthest sides."""
    return max([corners[2] for corners in panes]), max([corners[3] for corners in panes])


def spans(corners, kind):
    """Return from where to where a pane reaches across lines of a kind, and along them."""
    x0, y0, x1, y1 = corners
    if kind == "upright":
        return (x0, x1), (y0, y1)
    return (y0, y1), (x0, x1)


def find_segments(layout):
    """Return the segments, ascending."""
    width, height = find_desk(layout)
    segments = []
    for kind, border in (("level", height), ("upright", width)):
        stretches = {}
        # Each segment has panes on both sides, so the sides on one of them make it whole.
        for corners in layout:
            (_, end), along = spans(corners, kind)
            if end < border:
                stretches.setdefault(end, []).append(along)
        for place, lines in stretches.items():
            segments.extend([(kind, place, first, last) for first, last in join_stretches(lines)])
    return sorted(segments)


def join_stretches(stretches):
    """Join the stretches of one line that meet at their ends.

    Where two of them meet, no line of the other kind goes on, as four panes
    would meet there.
    """
    joined = []
    for first, last in sorted(stretches):
        if joined and joined[-1][1] == first:
            joined[-1] = (joined[-1][0], last)
        else:
            joined.append((first, last))
    return joined


def find_panes_along(layout, segment):
    """Return the panes above or left of a segment, and those below or right of it."""
    kind, place, low, high = segment
    ahead = []
    behind = []
    for pane, corners in enumerate(layout):
        (start, end), (first, last) = spans(corners, kind)
        if low <= first and last <= high:
            if end == place:
                ahead.append((first, pane))
            elif start == place:
                behind.append((first, pane))
    return [item[1] for item in sorted(ahead)], [item[1] for item in sorted(behind)]
