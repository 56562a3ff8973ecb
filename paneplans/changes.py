"""Changes of plans: two panes made one or swung, a pane split, layouts mirrored.

Functions named find_.. rely on valid arguments.
"""

from paneplans.checks import KINDS, check_pane, check_word
from paneplans.errors import NotNeighbours
from paneplans.plans import check_growing_plan, check_plan, find_places, find_without

WAYS = ("sides", "ends", "corners")


def whole_pairs(plan):
    """Return the tuples (r, r + 1) of panes that are alone at both sides of one segment, ascending."""
    check_plan(plan)
    return find_whole_pairs(plan)


def merged_plan(plan, pane):
    """Return the plan in which a pane and the next one, a whole pair, are one."""
    check_pair(plan, pane)
    return find_without(plan, pane + 1)


def swung_plan(plan, pane):
    """Return the plan in which a pane and the next one, a whole pair, are exchanged."""
    check_pair(plan, pane)
    exchanged = {pane: pane + 1, pane + 1: pane}
    return [exchanged.get(other, other) for other in plan]


def split_plan(plan, pane, kind):
    """Return the plan in which a pane is two: the old one is left of, or above, the new one, the next."""
    check_growing_plan(plan)
    check_pane(pane, len(plan))
    check_word(kind, KINDS)
    parts = [pane, pane + 1] if kind == "left" else [pane + 1, pane]
    place = plan.index(pane)
    renamed = [other if other <= pane else other + 1 for other in plan]
    return renamed[:place] + parts + renamed[place + 1:]


def mirrored_plan(plan, way):
    """Return the plan of the layouts mirrored: sides, ends, or x and y exchanged."""
    check_plan(plan)
    check_word(way, WAYS)
    return find_mirrored(plan, way)


def turned_plans(plan):
    """Return all plans that mirroring, again and again, makes of a plan, ascending."""
    check_plan(plan)
    found = [list(plan)]
    fresh = found
    while fresh:
        mirrored = [find_mirrored(other, way) for other in fresh for way in WAYS]
        fresh = []
        for other in mirrored:
            if other not in found and other not in fresh:
                fresh.append(other)
        found = found + fresh
    return sorted(found)


def check_pair(plan, pane):
    """Raise an error unless a pane and the next one are a whole pair of a plan."""
    check_plan(plan)
    check_pane(pane, len(plan))
    if (pane, pane + 1) not in find_whole_pairs(plan):
        raise NotNeighbours("these two are not alone at both sides of one segment")


def find_whole_pairs(plan):
    """Return the tuples (r, r + 1) of panes that are neighbours in both rows, ascending."""
    places = find_places(plan)
    return [(pane, pane + 1) for pane in range(len(plan) - 1) if abs(places[pane + 1] - places[pane]) == 1]


def find_mirrored(plan, way):
    """Return the plan of the layouts mirrored."""
    # x and y exchanged turn the rising row and keep the falling one; top and bottom
    # exchanged make each of the two rows the other one.
    if way == "corners":
        return plan[::-1]
    if way == "ends":
        return find_places(plan)
    # Left and right exchanged do the same, and turn both rows.
    last = len(plan) - 1
    return [last - place for place in find_places(plan)[::-1]]
