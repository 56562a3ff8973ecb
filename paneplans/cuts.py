"""Cuts: whether whole cuts part a desk into its panes, and what shows that they do not.

Functions named find_.. rely on valid arguments.
"""

from paneplans.checks import is_number
from paneplans.layouts import check_layout, find_segments, is_line
from paneplans.plans import check_plan, find_places


def cut_tree(plan):
    """Return the tree of the whole cuts that part a plan into its panes, or None."""
    check_plan(plan)
    return find_tree(plan)


def shows_tree(plan, thing):
    """Tell whether any object is the tree of a plan."""
    check_plan(plan)
    tree = find_tree(plan)
    return tree is not None and is_same_tree(tree, thing)


def bad_four(plan):
    """Return the least indices (i, j, k, l) of a plan that rule out whole cuts, or None."""
    check_plan(plan)
    if find_tree(plan) is not None:
        return None
    pairs = [(first, second) for first in range(len(plan)) for second in range(first + 1, len(plan))]
    for first, second in pairs:
        later = find_later_two(plan, first, second)
        if later is not None:
            return first, second, later[0], later[1]
    return None


def pinwheel_in(layout):
    """Return four segments that end at one another in a ring, or None."""
    check_layout(layout)
    goals = find_goals(find_segments(layout))
    for first in goals:
        for second in goals[first]:
            for third in goals[second]:
                for fourth in goals[third]:
                    if first in goals[fourth]:
                        return [first, second, third, fourth]
    return None


def shows_pinwheel(layout, thing):
    """Tell whether any object is a list of four segments that end at one another in a ring."""
    check_layout(layout)
    if not isinstance(thing, list) or len(thing) != 4:
        return False
    segments = find_segments(layout)
    if not all(is_line(item) and item in segments for item in thing):
        return False
    return all([ends_at(segment, other) for segment, other in zip(thing, thing[1:] + thing[:1])])


def find_tree(plan):
    """Return the tree of the whole cuts that part a plan into its panes, or None."""
    # What is left to join, as (first place, last place, kind, tree), each ahead in the falling row.
    parts = []
    for pane, place in enumerate(find_places(plan)):
        parts.append((place, place, "", pane))
        while len(parts) > 1:
            joined = join_parts(parts[-2], parts[-1])
            if joined is None:
                break
            parts[-2:] = [joined]
    return parts[0][3] if len(parts) == 1 else None


def join_parts(part, later):
    """Return what two neighbours in the falling row make together, None if the plan parts them."""
    first, last, part_kind, tree = part
    later_first, later_last, _, later_tree = later
    if last + 1 == later_first:
        kind = "left"
    elif later_last + 1 == first:
        kind = "above"
    else:
        return None
    # The later one is never of this kind, too: what it begins with would have been joined first.
    joined = tree + (later_tree,) if part_kind == kind else (kind, tree, later_tree)
    return min(first, later_first), max(last, later_last), kind, joined


def is_same_tree(tree, thing):
    """Tell whether any object is a tree."""
    if not isinstance(tree, tuple):
        return is_number(thing) and thing == tree
    if not isinstance(thing, tuple) or len(thing) != len(tree) or thing[0] != tree[0]:
        return False
    return all(is_same_tree(part, other) for part, other in zip(tree[1:], thing[1:]))


def find_later_two(plan, first, second):
    """Return the least indices that make four with these two as R5 says, or None."""
    # With all signs turned one form of R5 is the other one. The first k that will do
    # leaves the most places for l.
    sign = 1 if plan[first] < plan[second] else -1
    low, high = sign * plan[first], sign * plan[second]
    third = None
    for index in range(second + 1, len(plan)):
        number = sign * plan[index]
        if third is None and number < low:
            third = index
        elif third is not None and low < number < high:
            return third, index
    return None


def ends_at(segment, other):
    """Tell whether a segment ends at another one."""
    kind, place, low, high = segment
    cross, at, first, last = other
    return kind != cross and at in (low, high) and first < place < last


def find_goals(segments):
    """Return a dict: for each segment those at which it ends."""
    lines = {"level": {}, "upright": {}}
    for segment in segments:
        lines[segment[0]].setdefault(segment[1], []).append(segment)
    goals = {}
    for segment in segments:
        kind, place, low, high = segment
        crossing = lines["upright" if kind == "level" else "level"]
        met = crossing.get(low, []) + crossing.get(high, [])
        goals[segment] = [other for other in met if other[2] < place < other[3]]
    return goals
