"""Plans: the rows that tell how the panes of a layout lie to one another.

A plan is the rising row; its panes are named by their places in the falling
row. Functions that take any object check it first; those below them, named
find_.., rely on a row of all panes or on a valid plan.
"""

from paneplans.checks import check_two_panes, is_number
from paneplans.errors import InvalidPlan
from paneplans.layouts import MOST_PANES


def is_plan(thing):
    """Tell whether any object is a plan."""
    return is_row(thing) and find_pattern(thing) is None


def pattern_in(row):
    """Return the least indices (i, j, k) that keep a row of all panes from being a plan, or None."""
    if not is_row(row):
        raise InvalidPlan("this is no row of all panes")
    return find_pattern(row)


def way_in(plan, first, second):
    """Return how the first pane lies to the second one: left, right, above or below."""
    check_plan(plan)
    check_two_panes(first, second, len(plan))
    ahead = plan.index(first) < plan.index(second)
    if first < second:
        return "left" if ahead else "above"
    return "below" if ahead else "right"


def drawn_layout(plan):
    """Return the layout with this plan in which each pane has its name as its index."""
    check_plan(plan)
    return find_drawn(plan)


def segments_in(plan):
    """Return for each pane but the first (kind, ahead, behind): its segment to the pane before it."""
    check_plan(plan)
    return find_plan_segments(plan)


def borders_of(plan):
    """Return the panes at the left, the upper, the right and the lower border."""
    check_plan(plan)
    lefts, tops, rights, bottoms = find_panes_by_sides(plan)
    return lefts[0], tops[0], rights[-1], bottoms[-1]


def check_plan(plan):
    """Raise InvalidPlan unless this is a plan."""
    if not is_plan(plan):
        raise InvalidPlan("this is no plan")


def check_growing_plan(plan):
    """Raise InvalidPlan unless this is a plan with room for one pane more."""
    check_plan(plan)
    if len(plan) == MOST_PANES:
        raise InvalidPlan("there is no room for one pane more")


def is_row(thing):
    """Tell whether any object is a list of the numbers from 0 on, each once, as many as panes may be."""
    if not isinstance(thing, list) or not 1 <= len(thing) <= MOST_PANES:
        return False
    return all(is_number(item) for item in thing) and sorted(thing) == list(range(len(thing)))


def find_places(row):
    """Return for each pane its place in a row."""
    places = [0 for _ in row]
    for place, pane in enumerate(row):
        places[pane] = place
    return places


def find_pattern(row):
    """Return the least (i, j, k) that R2 rules out, or None."""
    places = find_places(row)
    found = [find_pattern_at(row, places, middle) for middle in range(1, len(row) - 2)]
    return min([pattern for pattern in found if pattern is not None], default=None)


def find_pattern_at(row, places, middle):
    """Return the least (i, j, k) that R2 rules out with this j, or None."""
    high, low = row[middle], row[middle + 1]
    # From r[j + 1] to r[j], upwards or downwards, R2 wants r[i] first and then r[k].
    step = 1 if low < high else -1
    spots = [places[pane] for pane in range(low + step, high, step)]
    while spots and spots[-1] < middle:
        spots.pop()
    first = min(spots, default=middle)
    if first >= middle:
        return None
    later = [spot for spot in spots[spots.index(first):] if spot > middle]
    return first, middle, min(later)


def find_sides(plan):
    """Return the lists of the x0, the y0, the x1 and the y1 of all panes of the drawn layout."""
    places = find_places(plan)
    turned = [-place for place in places]
    most = len(plan) - 1
    # The panes left of one are those before it in both rows, those above it only in the falling row.
    lefts = [pane + 1 for pane in find_last_lesser(places)]
    tops = [pane + 1 for pane in find_last_lesser(turned)]
    # Behind it likewise, with both rows read from their ends.
    rights = [most - pane for pane in find_last_lesser(turned[::-1])]
    bottoms = [most - pane for pane in find_last_lesser(places[::-1])]
    return lefts, tops, rights[::-1], bottoms[::-1]


def find_last_lesser(numbers):
    """Return for each place the last place before it that has a lesser number, -1 for none."""
    found = []
    lesser = []
    for place, number in enumerate(numbers):
        while lesser and numbers[lesser[-1]] > number:
            lesser.pop()
        found.append(lesser[-1] if lesser else -1)
        lesser.append(place)
    return found


def find_drawn(plan):
    """Return the drawn layout."""
    lefts, tops, rights, bottoms = find_sides(plan)
    return list(zip(lefts, tops, rights, bottoms))


def find_plan_segments(plan):
    """Return for each pane but the first (kind, ahead, behind)."""
    lefts, tops, rights, bottoms = find_panes_by_sides(plan)
    segments = []
    for pane in range(1, len(plan)):
        # In the drawn layout the segment ahead of a pane is the only one at the number of the pane.
        if rights[pane]:
            segments.append(("upright", rights[pane], lefts[pane]))
        else:
            segments.append(("level", bottoms[pane], tops[pane]))
    return segments


def find_panes_by_sides(plan):
    """Return for x0, y0, x1 and y1 of the drawn layout a list: for each place the panes that have it there."""
    return [group_panes(places) for places in find_sides(plan)]


def find_without(plan, pane):
    """Return a row without a pane, later panes renamed to one less."""
    return [other if other < pane else other - 1 for other in plan if other != pane]


def group_panes(places):
    """Return for each place from 0 to the number of panes the panes that have it, ascending."""
    groups = [[] for _ in range(len(places) + 1)]
    for pane, place in enumerate(places):
        groups[place].append(pane)
    return groups
