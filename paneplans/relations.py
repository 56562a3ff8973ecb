"""How the panes of a layout lie to one another: ways, chains, rows and plans."""

from paneplans.checks import check_two_panes, is_pane_index
from paneplans.layouts import check_layout, find_panes_along, find_segments

WAYS = ("left", "right", "above", "below")
FALLING = ("left", "above")
RISING = ("left", "below")


def way_of(layout, first, second):
    """Return how the first pane lies to the second one: left, right, above or below."""
    check_layout(layout)
    check_two_panes(first, second, len(layout))
    way, _ = find_way_and_chain(layout, first, second)
    return way


def chain_of(layout, first, second):
    """Return a chain from the first pane to the second one, as short as can be."""
    check_layout(layout)
    check_two_panes(first, second, len(layout))
    _, chain = find_way_and_chain(layout, first, second)
    return chain


def shows_chain(layout, thing):
    """Tell whether any object is a chain of two or more panes that lie to the next in one way."""
    check_layout(layout)
    if not isinstance(thing, list) or len(thing) < 2:
        return False
    if not all(is_pane_index(pane, len(layout)) for pane in thing):
        return False
    steps = find_steps(layout)
    return any(goes_by(steps[way], thing) for way in WAYS)


def falling_row(layout):
    """Return the panes, each ahead of those that it is left of or above."""
    check_layout(layout)
    return find_row(layout, FALLING)


def rising_row(layout):
    """Return the panes, each ahead of those that it is left of or below."""
    check_layout(layout)
    return find_row(layout, RISING)


def plan_of(layout):
    """Return the rising row, its panes renamed by their places in the falling row."""
    check_layout(layout)
    return find_plan(layout)


def lie_alike(layout, other):
    """Tell whether two layouts have as many panes and each two of them lie the same way."""
    check_layout(layout)
    check_layout(other)
    # A way tells the sequence of two panes in both rows, and both sequences tell the way.
    return (find_row(layout, FALLING) == find_row(other, FALLING)
            and find_row(layout, RISING) == find_row(other, RISING))


def same_plan(layout, other):
    """Tell whether two layouts have one plan."""
    check_layout(layout)
    check_layout(other)
    return find_plan(layout) == find_plan(other)


def find_steps(layout):
    """Return for each way a list: for each pane the panes to which it lies so at one segment."""
    steps = {way: [[] for _ in layout] for way in WAYS}
    for segment in find_segments(layout):
        way, back = ("left", "right") if segment[0] == "upright" else ("above", "below")
        ahead, behind = find_panes_along(layout, segment)
        for pane in ahead:
            steps[way][pane].extend(behind)
        for pane in behind:
            steps[back][pane].extend(ahead)
    return steps


def find_way_and_chain(layout, first, second):
    """Return how a pane lies to another one, and a chain that shows it."""
    steps = find_steps(layout)
    chains = [(way, find_chain(steps[way], first, second)) for way in WAYS]
    found = [(way, chain) for way, chain in chains if chain]
    # Of two different panes exactly one of the four ways holds.
    return found[0]


def find_chain(steps, first, second):
    """Return a shortest list of panes from the first to the second one by these steps, or []."""
    chains = {first: [first]}
    ends = [first]
    while ends and second not in chains:
        reached = []
        for pane in ends:
            for other in steps[pane]:
                if other not in chains:
                    chains[other] = chains[pane] + [other]
                    reached.append(other)
        ends = reached
    return chains.get(second, [])


def goes_by(steps, chain):
    """Tell whether each pane of a chain leads to the next one by one of these steps."""
    return all(second in steps[first] for first, second in zip(chain, chain[1:]))


def find_row(layout, ways):
    """Return the panes, each ahead of those to which it lies in one of these ways."""
    steps = find_steps(layout)
    later = [steps[ways[0]][pane] + steps[ways[1]][pane] for pane in range(len(layout))]
    waits = [0 for _ in layout]
    for others in later:
        for other in others:
            waits[other] += 1
    row = []
    ready = [pane for pane in range(len(layout)) if waits[pane] == 0]
    while ready:
        pane = ready.pop()
        row.append(pane)
        for other in later[pane]:
            waits[other] -= 1
            if waits[other] == 0:
                ready.append(other)
    return row


def find_plan(layout):
    """Return the plan of a layout."""
    places = {pane: place for place, pane in enumerate(find_row(layout, FALLING))}
    return [places[pane] for pane in find_row(layout, RISING)]
