"""How the panes of a layout lie to one another: ways, chains, rows and plans."""

from paneplans.checks import check_two_panes, is_pane_index
from paneplans.layouts import check_layout, find_sides


def way_of(layout, first, second):
    """Return how the first pane lies to the second one: left, right, above or below."""
    check_layout(layout)
    check_two_panes(first, second, len(layout))
    ways = find_possible_ways(layout, first, second)
    if len(ways) == 1 or find_chain(layout, ways[0], first, second):
        return ways[0]
    return ways[1]


def chain_of(layout, first, second):
    """Return a chain from the first pane to the second one, as short as can be."""
    check_layout(layout)
    check_two_panes(first, second, len(layout))
    ways = find_possible_ways(layout, first, second)
    return find_chain(layout, ways[0], first, second) or find_chain(layout, ways[-1], first, second)


def shows_chain(layout, thing):
    """Tell whether any object is a chain of two or more panes that lie to the next in one way."""
    check_layout(layout)
    if not isinstance(thing, list) or len(thing) < 2:
        return False
    if not all(is_pane_index(pane, len(layout)) for pane in thing):
        return False
    steps = [find_steps(layout, way) for way in ("left", "above")]
    # A chain of panes right of or below the next ones is one of these when read from its end.
    return any([goes_by(found, chain) for found in steps for chain in (thing, thing[::-1])])


def falling_row(layout):
    """Return the panes, each ahead of those that it is left of or above."""
    check_layout(layout)
    falling, _ = find_rows(layout)
    return falling


def rising_row(layout):
    """Return the panes, each ahead of those that it is left of or below."""
    check_layout(layout)
    _, rising = find_rows(layout)
    return rising


def plan_of(layout):
    """Return the rising row, its panes renamed by their places in the falling row."""
    check_layout(layout)
    return find_plan(layout)


def lie_alike(layout, other):
    """Tell whether two layouts have as many panes and each two of them lie the same way."""
    check_layout(layout)
    check_layout(other)
    return is_alike(layout, other)


def same_plan(layout, other):
    """Tell whether two layouts have one plan."""
    check_layout(layout)
    check_layout(other)
    return find_plan(layout) == find_plan(other)


def is_alike(layout, other):
    """Tell whether layouts lie alike."""
    # A way tells the sequence of two panes in both rows, and both sequences tell the way.
    return find_rows(layout) == find_rows(other)


def find_possible_ways(layout, first, second):
    """Return the one or two ways in which a pane can lie to another one, as their corners tell."""
    x0, y0, x1, y1 = layout[first]
    left, top, right, bottom = layout[second]
    # A chain leads on and on, so it ends beyond the pane at which it begins.
    found = (("left", x1 <= left), ("right", right <= x0), ("above", y1 <= top), ("below", bottom <= y0))
    return [way for way, holds in found if holds]


def find_chain(layout, way, first, second):
    """Return a shortest chain by which a pane lies so to another one, or []."""
    steps = find_steps(layout, way)
    chains = {first: [first]}
    ends = [first]
    while ends and second not in chains:
        reached = []
        for pane in ends:
            for other in steps[pane]:
                if other not in chains:
                    chains[other] = chains[pane] + [other]
                    reached.append(other)
        ends = reached
    return chains.get(second, [])


def find_steps(layout, way):
    """Return for each pane the list of the panes to which it lies so at one segment."""
    steps = [[] for _ in layout]
    kind = "upright" if way in ("left", "right") else "level"
    for _, ahead, behind in find_sides(layout, kind):
        panes, others = (ahead, behind) if way in ("left", "above") else (behind, ahead)
        for pane in panes:
            steps[pane] = others
    return steps


def goes_by(steps, chain):
    """Tell whether each pane of a chain leads to the next one by one of these steps."""
    return all(second in steps[first] for first, second in zip(chain, chain[1:]))


def find_rows(layout):
    """Return the falling and the rising row."""
    upright = find_sides(layout, "upright")
    level = find_sides(layout, "level")
    # Each two neighbours in a row are parted by one segment, each segment parts two neighbours:
    # the last pane on the one side of it from the first pane on the other side.
    falling = {ahead[-1]: behind[0] for _, ahead, behind in upright + level}
    rising = {ahead[0]: behind[-1] for _, ahead, behind in upright}
    rising.update({behind[-1]: ahead[0] for _, ahead, behind in level})
    return find_row(falling), find_row(rising)


def find_row(nexts):
    """Return the panes in their sequence, of which a dict tells for all but the last one the next one."""
    later = set(list(nexts.values()))
    # A single pane has no neighbour.
    row = [pane for pane in nexts if pane not in later] or [0]
    while row[-1] in nexts:
        row.append(nexts[row[-1]])
    return row


def find_plan(layout):
    """Return the plan of a layout."""
    falling, rising = find_rows(layout)
    places = {pane: place for place, pane in enumerate(falling)}
    return [places[pane] for pane in rising]
