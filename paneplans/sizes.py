"""Sizes: how small a layout can get, and where its segments can be, if panes have least widths and heights.

Along x, lines are the upright segments with the panes ahead of and behind
each, ascending; along y the level ones. A span is the tuple of two lists:
where each pane starts and where it ends. Functions named find_.. rely on valid
arguments.
"""

from paneplans.checks import KINDS, check_word, is_number
from paneplans.errors import InvalidSizes, TooSmall
from paneplans.layouts import check_layout, find_sides


def least_desk(layout, widths, heights):
    """Return the least width and the least height of a desk that fits."""
    check_layout_and_sizes(layout, widths, heights)
    return find_least_desk(layout, widths, heights)


def heaviest_chain(layout, sizes, kind):
    """Return panes, each left of (above) the next one, with the greatest sum of sizes."""
    check_layout(layout)
    check_sizes(sizes, len(layout))
    check_word(kind, KINDS)
    lines = find_sides(layout, "upright" if kind == "left" else "level")
    return find_heaviest(lines, sizes)


def least_corners(layout, widths, heights):
    """Return the corners of all panes on the least desk, each as far left and up as can be."""
    check_layout_and_sizes(layout, widths, heights)
    columns = find_least_span(find_sides(layout, "upright"), widths)
    rows = find_least_span(find_sides(layout, "level"), heights)
    return join_spans(columns, rows)


def fits_desk(layout, widths, heights, desk):
    """Tell whether panes of these least sizes fit on a desk, lying as in a layout."""
    check_layout_and_sizes(layout, widths, heights)
    check_desk(desk)
    return is_room(layout, widths, heights, desk)


def greatest_corners(layout, widths, heights, desk):
    """Return the corners of all panes on a desk, each as far right and down as can be."""
    check_fit(layout, widths, heights, desk)
    columns = find_greatest_span(find_sides(layout, "upright"), widths, desk[0])
    rows = find_greatest_span(find_sides(layout, "level"), heights, desk[1])
    return join_spans(columns, rows)


def rooms_of(layout, widths, heights, desk):
    """Return for each segment, ascending, the least and the greatest place that it can have on a desk."""
    check_fit(layout, widths, heights, desk)
    level = find_rooms(find_sides(layout, "level"), heights, desk[1])
    return level + find_rooms(find_sides(layout, "upright"), widths, desk[0])


def check_layout_and_sizes(layout, widths, heights):
    """Raise an error unless these are a layout and the sizes of its panes."""
    check_layout(layout)
    check_sizes(widths, len(layout))
    check_sizes(heights, len(layout))


def check_fit(layout, widths, heights, desk):
    """Raise an error unless these are valid and the panes fit on the desk."""
    check_layout_and_sizes(layout, widths, heights)
    check_desk(desk)
    if not is_room(layout, widths, heights, desk):
        raise TooSmall("the desk has no room for the panes")


def check_sizes(sizes, many):
    """Raise InvalidSizes unless this is a list of so many sizes."""
    if not isinstance(sizes, list) or len(sizes) != many or not all(is_size(item) for item in sizes):
        raise InvalidSizes("this is no list of a size for each pane")


def check_desk(desk):
    """Raise InvalidSizes unless this is the tuple of a width and a height."""
    if not isinstance(desk, tuple) or len(desk) != 2 or not all(is_size(item) for item in desk):
        raise InvalidSizes("this is no size of a desk")


def is_size(thing):
    """Tell whether any object is an integer of at least 1."""
    return is_number(thing) and thing >= 1


def is_room(layout, widths, heights, desk):
    """Tell whether a desk is as great as the least one."""
    width, height = find_least_desk(layout, widths, heights)
    return desk[0] >= width and desk[1] >= height


def find_least_desk(layout, widths, heights):
    """Return the least width and the least height."""
    width = max(find_least_ends(find_sides(layout, "upright"), widths))
    return width, max(find_least_ends(find_sides(layout, "level"), heights))


def find_starts(lines, sizes):
    """Return for each pane the least place where it can start."""
    starts = [0 for _ in sizes]
    for _, ahead, behind in lines:
        # The panes ahead of a segment start at segments before it, or at the border.
        place = max([starts[pane] + sizes[pane] for pane in ahead])
        for pane in behind:
            starts[pane] = place
    return starts


def find_least_ends(lines, sizes):
    """Return for each pane the least place where it can end."""
    return [start + size for start, size in zip(find_starts(lines, sizes), sizes)]


def find_heaviest(lines, sizes):
    """Return panes, each at a segment behind the one before it, with the greatest sum of sizes."""
    starts = find_starts(lines, sizes)
    ends = find_least_ends(lines, sizes)
    befores = {pane: ahead for _, ahead, behind in lines for pane in behind}
    chain = [ends.index(max(ends))]
    while chain[-1] in befores:
        start = starts[chain[-1]]
        chain.append([pane for pane in befores[chain[-1]] if ends[pane] == start][0])
    return chain[::-1]


def find_least_span(lines, sizes):
    """Return the span in which all starts are as small as can be."""
    starts = find_starts(lines, sizes)
    length = max(find_least_ends(lines, sizes))
    ends = [length for _ in sizes]
    for _, ahead, behind in lines:
        for pane in ahead:
            ends[pane] = starts[behind[0]]
    return starts, ends


def find_greatest_span(lines, sizes, length):
    """Return the span in which all ends are as great as can be."""
    # Read from the end of the desk, this is the least span.
    turned = [(segment, behind, ahead) for segment, ahead, behind in lines[::-1]]
    ends = [length - start for start in find_starts(turned, sizes)]
    starts = [0 for _ in sizes]
    for _, ahead, behind in lines:
        for pane in behind:
            starts[pane] = ends[ahead[0]]
    return starts, ends


def find_rooms(lines, sizes, length):
    """Return for each segment the least and the greatest place that it can have."""
    starts = find_starts(lines, sizes)
    _, ends = find_greatest_span(lines, sizes, length)
    return [(starts[behind[0]], ends[ahead[0]]) for _, ahead, behind in lines]


def join_spans(columns, rows):
    """Return the corners of panes of their spans along x and y."""
    lefts, rights = columns
    tops, bottoms = rows
    return list(zip(lefts, tops, rights, bottoms))
