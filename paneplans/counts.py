"""Counts: how many plans there are, which one has an index, and how layouts with a plan can touch.

Functions named find_.. rely on valid arguments.
"""

from itertools import accumulate
from math import comb

from paneplans.checks import check_number, is_number
from paneplans.codes import find_code, find_plan_of_code, grow_borders
from paneplans.errors import InvalidIndex
from paneplans.layouts import MOST_PANES
from paneplans.plans import check_plan, find_plan_segments

MOST_COUNTED = 200
MOST_TOUCHING = 7


def count_plans(number):
    """Return how many plans of so many panes there are."""
    check_number(number, 1, MOST_COUNTED)
    # These are the Baxter numbers; only the sum as a whole can be divided.
    size = number + 1
    triples = sum([comb(size, k - 1) * comb(size, k) * comb(size, k + 1) for k in range(1, size)])
    return triples // (comb(size, 1) * comb(size, 2))


def count_borders(number, right, lower):
    """Return how many plans have so many panes, in all and at the right and at the lower border."""
    check_number(number, 1, MOST_PANES)
    # With each pane more the two borders together get at most one pane more.
    if right < 1 or lower < 1 or right + lower > number + 1:
        return 0
    steps = number - 1
    return sum([count_triples(east, steps - east, right, lower) for east in range(number)])


def nth_plan(number, index):
    """Return the plan of so many panes whose code has an index among all, ascending."""
    check_number(number, 1, MOST_PANES)
    tables = find_endings(number)
    if not is_number(index) or not 0 <= index < tables[0][0][0]:
        raise InvalidIndex("there is no plan with this index")
    code = []
    lower = right = 1
    for table in tables[1:]:
        branches = find_branches(table, lower, right)
        passed = 0
        while index >= branches[passed][1]:
            index -= branches[passed][1]
            passed += 1
        code.append(branches[passed][0])
        lower, right = grow_borders(lower, right, code[-1])
    return find_plan_of_code(code)


def plan_index(plan):
    """Return the index of a plan's code among all of as many panes, ascending."""
    check_plan(plan)
    index = 0
    lower = right = 1
    for number, table in zip(find_code(plan), find_endings(len(plan))[1:]):
        index += sum([many for other, many in find_branches(table, lower, right) if other < number])
        lower, right = grow_borders(lower, right, number)
    return index


def count_cut(number):
    """Return how many plans of so many panes can be cut by whole cuts."""
    check_number(number, 1, MOST_COUNTED)
    # These are the large Schroeder numbers, as sums over the Catalan numbers.
    cuts = number - 1
    return sum([comb(cuts + k, 2 * k) * (comb(2 * k, k) // (k + 1)) for k in range(number)])


def ways_to_touch(plan):
    """Return how many different lists of touching pairs layouts with this plan have."""
    check_plan(plan)
    return find_ways_to_touch(plan)


def count_touching(number):
    """Return the sum of ways_to_touch over all plans of so many panes."""
    check_number(number, 1, MOST_TOUCHING)
    states = {((), ()): 1}
    for _ in range(number - 1):
        states = grow_states(states)
    return sum(list(states.values()))


def count_triples(east, north, right, lower):
    """Return how many triples of paths that do not meet stand for plans with these panes at the borders.

    Plans of n panes correspond to three paths of n - 1 steps, each with as many
    steps east and north, side by side: the upper one ends with one step east
    for each pane but one at the right border, the lower one with one step north
    for each pane but one at the lower border.
    """
    if east == 0 or north == 0:
        return 1 if (right - 1, lower - 1) == (east, north) else 0
    starts = [(0, 2), (1, 1), (2, 0)]
    # Ahead of its last steps the upper path takes one step north, the lower one a step east;
    # these are the points ahead of that, from which on nothing is left to choose.
    ends = [(east - right + 1, north + 1), (east + 1, north + 1), (east + 1, north - lower + 1)]
    upper, middle, last = [[count_paths(x - x0, y - y0) for x, y in ends] for x0, y0 in starts]
    # Paths that meet can be exchanged from there on, so the determinant leaves only those that do not.
    return (upper[0] * (middle[1] * last[2] - middle[2] * last[1])
            - upper[1] * (middle[0] * last[2] - middle[2] * last[0])
            + upper[2] * (middle[0] * last[1] - middle[1] * last[0]))


def count_paths(east, north):
    """Return how many paths have so many steps east and north."""
    return comb(east + north, east) if east >= 0 and north >= 0 else 0


def find_endings(number):
    """Return tables for plans of 1, 2 .. panes: in how many ways one can grow to so many panes.

    A table is asked [lower - 1][right - 1] for the numbers of panes at these borders.
    """
    tables = [[[1] * (number - lower) for lower in range(number)]]
    for many in range(number - 1, 0, -1):
        sums = [list(accumulate(row)) for row in tables[-1]]
        tables.append([[sums[right + 1][lower] + sums[lower + 1][right] for right in range(many - lower)]
                       for lower in range(many)])
    return tables[::-1]


def find_branches(table, lower, right):
    """Return the tuples (number, many): the numbers that can stand next, ascending, and how many codes go on so."""
    branches = []
    for number in find_numbers(lower, right):
        grown_lower, grown_right = grow_borders(lower, right, number)
        branches.append((number, table[grown_lower - 1][grown_right - 1]))
    return branches


def find_numbers(lower, right):
    """Return the numbers that can stand next, ascending."""
    return list(range(-right, 0)) + list(range(1, lower + 1))


def find_ways_to_touch(plan):
    """Return how many different lists of touching pairs layouts with this plan have."""
    ways = 1
    for _, ahead, behind in find_plan_segments(plan):
        # The segments that end from one side follow one another as they must,
        # those from the other side can come between them in any way.
        ways *= comb(len(ahead) + len(behind) - 2, len(ahead) - 1)
    return ways


def grow_states(states):
    """Return the states of plans with one pane more.

    A state is what decides how the ways to touch grow with each pane: the tuples
    (panes ahead, panes behind) of the upright segments that part the panes at
    the lower border, and those of the level segments that part the panes at the
    right border. For each state there is the sum of the ways to touch of all
    plans that have it.
    """
    grown = {}
    for (lower, right), ways in states.items():
        for one, other, many in find_grown_states(lower, right, ways) + find_grown_states(right, lower, ways):
            # With x and y exchanged there are as many ways.
            key = (min(one, other), max(one, other))
            grown[key] = grown.get(key, 0) + many
    return grown


def find_grown_states(border, other, ways):
    """Return (border, other, ways) for each way to put a new pane behind the last ones of a border."""
    many = len(border) + 1
    grown = [((), other + ((many, 1),), ways)]
    for place, (ahead, behind) in enumerate(border):
        # The new pane lies behind this segment, too, and the other panes ahead of it stay at the border.
        # comb(ahead + behind - 2, ahead - 1) becomes so many times as much when behind becomes one more.
        more = ways * (ahead + behind - 1) // behind
        grown.append((border[:place] + ((ahead, behind + 1),), other + ((many - place - 1, 1),), more))
    return grown
