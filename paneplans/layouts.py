"""Layouts: their desk, their segments, and which of their panes touch.

A pane that is named is an index of the layout; its corners are the tuple that
stands there. Functions that take any object check it first; those below them,
named find_.., rely on a valid layout.
"""

from paneplans.checks import check_pane, check_word, is_number
from paneplans.errors import InvalidLayout, InvalidSegment, Meeting

MOST_PANES = 60
SIDES = ("left", "top", "right", "bottom")


def is_layout(thing):
    """Tell whether any object is a layout."""
    return is_list_of_items(thing) and all([is_pane(item) for item in thing]) and tiles_desk(thing)


def desk_of(layout):
    """Return the width and the height of a layout's desk."""
    check_layout(layout)
    return find_desk(layout)


def segments_of(layout):
    """Return the segments of a layout, ascending."""
    check_layout(layout)
    return find_segments(layout)


def panes_along(layout, segment):
    """Return the panes above or left of a segment, and those below or right of it."""
    check_layout(layout)
    return find_along(layout, segment)


def segment_at(layout, pane, side):
    """Return the segment at a side of a pane, None at the border."""
    check_layout(layout)
    check_pane(pane, len(layout))
    check_word(side, SIDES)
    line = find_line_at(layout, pane, side)
    return None if line is None else line[0]


def touching_pairs(layout):
    """Return the pairs of panes that touch, ascending."""
    check_layout(layout)
    return find_touching(layout)


def check_layout(layout):
    """Raise InvalidLayout unless this is a layout."""
    if is_layout(layout):
        return
    bad = find_bad_item(layout) if is_list_of_items(layout) else None
    raise InvalidLayout(bad)


def check_no_meeting(panes):
    """Raise Meeting with the least point at which four of these panes meet, if there is one."""
    counts = {}
    for x0, y0, x1, y1 in panes:
        for point in ((x0, y0), (x1, y0), (x0, y1), (x1, y1)):
            counts[point] = counts.get(point, 0) + 1
    met = [point for point, many in counts.items() if many == 4]
    if met:
        x, y = min(met)
        raise Meeting(x, y)


def is_list_of_items(thing):
    """Tell whether any object is a list of as many items as a layout may have."""
    return isinstance(thing, list) and 1 <= len(thing) <= MOST_PANES


def is_pane(thing):
    """Tell whether any object is the tuple of the corners of a pane."""
    if not isinstance(thing, tuple) or len(thing) != 4:
        return False
    x0, y0, x1, y1 = thing
    # As in is_number, but without its calls: all panes of all layouts come here.
    return (type(x0) is int and type(y0) is int and type(x1) is int and type(y1) is int
            and 0 <= x0 < x1 and 0 <= y0 < y1)


def is_line(thing):
    """Tell whether any object is a tuple with integers where a segment has them."""
    # True == 1 in Python, so comparing with the segments would not be enough.
    return isinstance(thing, tuple) and all(is_number(place) for place in thing[1:])


def tiles_desk(panes):
    """Tell whether panes tile a desk from (0, 0) on and no four of them meet at a point.

    If all top left and bottom right corners count as 1 and the others as -1,
    then panes tile the desk if and only if the sums at all points are those
    of one pane of its size. A point with two of the same kind is a meeting.
    """
    width, height = find_desk(panes)
    falling = [(x0, y0) for x0, y0, _, _ in panes] + [(x1, y1) for _, _, x1, y1 in panes]
    rising = [(x1, y0) for _, y0, x1, _ in panes] + [(x0, y1) for x0, _, _, y1 in panes]
    # With the corners of the desk on the other side all sums are 0.
    falling.extend([(width, 0), (0, height)])
    rising.extend([(0, 0), (width, height)])
    points = set(falling)
    others = set(rising)
    return len(points) == len(falling) and points == others


def find_bad_item(items):
    """Return the index of the first item that is no pane or overlaps an earlier one, or None."""
    for index, item in enumerate(items):
        if not is_pane(item) or any(overlap(item, earlier) for earlier in items[:index]):
            return index
    return None


def overlap(corners, others):
    """Tell whether two panes have more than sides in common."""
    x0, y0, x1, y1 = corners
    left, top, right, bottom = others
    return x0 < right and left < x1 and y0 < bottom and top < y1


def find_desk(panes):
    """Return the width and the height of the desk from (0, 0) to the farthest sides."""
    return max([corners[2] for corners in panes]), max([corners[3] for corners in panes])


def find_segments(layout):
    """Return the segments, ascending."""
    width, height = find_desk(layout)
    # The panes on one side of a segment lie along the whole of it.
    level = [(y1, x0, x1) for x0, _, x1, y1 in layout if y1 < height]
    upright = [(x1, y0, y1) for _, y0, x1, y1 in layout if x1 < width]
    return join_lines("level", level) + join_lines("upright", upright)


def join_lines(kind, stretches):
    """Return the segments of a kind, ascending, that stretches (place, first, last) along one side of them make."""
    lines = []
    for place, first, last in sorted(stretches):
        if lines and lines[-1][1] == place and lines[-1][3] == first:
            lines[-1] = (kind, place, lines[-1][2], last)
        else:
            lines.append((kind, place, first, last))
    return lines


def find_all_sides(layout):
    """Return for each segment, ascending, (segment, ahead, behind): with the panes along its two sides."""
    return find_sides(layout, "level") + find_sides(layout, "upright")


def find_sides(layout, kind):
    """Return for each segment of a kind, ascending, (segment, ahead, behind)."""
    # With x and y exchanged level segments are found as upright ones are.
    corners = layout if kind == "upright" else [(y0, x0, y1, x1) for x0, y0, x1, y1 in layout]
    ahead = join_stretches([(x1, y0, y1, pane) for pane, (_, y0, x1, y1) in enumerate(corners)])
    behind = join_stretches([(x0, y0, y1, pane) for pane, (x0, y0, _, y1) in enumerate(corners)])
    sides = []
    for start, panes in ahead.items():
        # Only a border has no panes behind it.
        if start in behind:
            place, first = start
            last = corners[panes[-1]][3]
            sides.append(((kind, place, first, last), panes, behind[start]))
    return sides


def find_along(layout, segment):
    """Return the panes along the two sides of a segment; any object that is none raises InvalidSegment."""
    if is_line(segment):
        for found, ahead, behind in find_all_sides(layout):
            if found == segment:
                return ahead, behind
    raise InvalidSegment("this is no segment of the layout")


def find_line_at(layout, pane, side):
    """Return (segment, own, others) at a side of a pane, None at the border.

    own are the panes along the segment on the pane's side of it, others those on the other side.
    """
    kind = "upright" if side in ("left", "right") else "level"
    for segment, ahead, behind in find_sides(layout, kind):
        own, others = (behind, ahead) if side in ("left", "top") else (ahead, behind)
        if pane in own:
            return segment, own, others
    return None


def move_side(corners, side, place):
    """Return the corners of a pane with one of its sides, numbered as in SIDES, at another place."""
    return corners[:side] + (place,) + corners[side + 1:]


def join_stretches(stretches):
    """Return a dict, ascending: for each (place, first) where a line begins, the panes along it.

    Each stretch is a tuple (place, first, last, pane). Where two of them meet,
    no line of the other kind goes on, as four panes would meet there.
    """
    lines = {}
    start = end = None
    for place, first, last, pane in sorted(stretches):
        if (place, first) != end:
            start = (place, first)
            lines[start] = []
        lines[start].append(pane)
        end = (place, last)
    return lines


def find_touching(layout):
    """Return the pairs of panes that touch, ascending."""
    pairs = []
    for segment, ahead, behind in find_all_sides(layout):
        pairs.extend(find_pairs_at(layout, segment[0], ahead, behind))
    return sorted([(min(pair), max(pair)) for pair in pairs])


def find_pairs_at(layout, kind, ahead, behind):
    """Return the pairs of panes that touch along a segment."""
    side = 3 if kind == "upright" else 2
    pairs = [(ahead[0], behind[0])]
    first = second = 0
    # Two panes end at one place only where the segment ends, too.
    while first + 1 < len(ahead) or second + 1 < len(behind):
        if layout[ahead[first]][side] < layout[behind[second]][side]:
            first += 1
        else:
            second += 1
        pairs.append((ahead[first], behind[second]))
    return pairs
