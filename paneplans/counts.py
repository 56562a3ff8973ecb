"""Counts: how many plans there are, which one has an index, and how layouts with a plan can touch.

Functions named find_.. rely on valid arguments.
"""

from itertools import accumulate
from math import comb

from paneplans.checks import check_number, is_number
from paneplans.codes import find_code, find_plan_of_code, grow_borders
from paneplans.errors import InvalidIndex
from paneplans.layouts import MOST_PANES
from paneplans.plans import check_plan, find_plan_segments

MOST_COUNTED = 200
MOST_TOUCHING = 7


def count_plans(number):
    """Return how many plans of so many panes there are."""
    check_number(number, 1, MOST_COUNTED)
    # These are the Baxter numbers; only the sum as a whole can be divided.
    size = number + 1
    triples = sum([comb(size, k - 1) * comb(size, k) * comb(size, k + 1) for k in range(1, size)])
    return triples // (comb(size, 1) * comb(size, 2))


def count_borders(number, right, lower):
    """Return how many plans have so many panes, in all and at the right and at the lower border."""
    check_number(number, 1, MOST_PANES)
    # With each pane more the two borders together get at most one pane more.
    if right < 1 or lower < 1 or right + lower > number + 1:
        return 0
    return find_border_counts(number)[lower - 1][right - 1]


def nth_plan(number, index):
    """Return the plan of so many panes whose code has an index among all, ascending."""
    check_number(number, 1, MOST_PANES)
    tables = find_endings(number)
    if not is_number(index) or not 0 <= index < tables[0][0][0]:
        raise InvalidIndex("there is no plan with this index")
    code = []
    lower = right = 1
    for table in tables[1:]:
        branches = find_branches(table, lower, right)
        passed = 0
        while index >= branches[passed][1]:
            index -= branches[passed][1]
            passed += 1
        code.append(branches[passed][0])
        lower, right = grow_borders(lower, right, code[-1])
    return find_plan_of_code(code)


def plan_index(plan):
    """Return the index of a plan's code among all of as many panes, ascending."""
    check_plan(plan)
    index = 0
    lower = right = 1
    for number, table in zip(find_code(plan), find_endings(len(plan))[1:]):
        index += sum([many for other, many in find_branches(table, lower, right) if other < number])
        lower, right = grow_borders(lower, right, number)
    return index


def count_cut(number):
    """Return how many plans of so many panes can be cut by whole cuts."""
    check_number(number, 1, MOST_COUNTED)
    # These are the large Schroeder numbers, as sums over the Catalan numbers.
    cuts = number - 1
    return sum([comb(cuts + k, 2 * k) * (comb(2 * k, k) // (k + 1)) for k in range(number)])


def ways_to_touch(plan):
    """Return how many different lists of touching pairs layouts with this plan have."""
    check_plan(plan)
    return find_ways_to_touch(plan)


def count_touching(number):
    """Return the sum of ways_to_touch over all plans of so many panes."""
    check_number(number, 1, MOST_TOUCHING)
    return sum([find_ways_to_touch(find_plan_of_code(code)) for code in find_codes(number)])


def find_border_counts(number):
    """Return a table: how many plans have so many panes at the lower and at the right border.

    It is asked [lower - 1][right - 1].
    """
    table = [[1]]
    for many in range(1, number):
        # What grows to so many panes at the borders had one less at one of them, and as many
        # or more at the other one; x and y can be exchanged, so one table of sums does for both.
        sums = [[0] * (many + 1)] + [list(accumulate(row[::-1]))[::-1] for row in table]
        table = [[sums[right][lower] + sums[lower][right] for right in range(many + 1 - lower)]
                 for lower in range(many + 1)]
    return table


def find_endings(number):
    """Return tables for plans of 1, 2 .. panes: in how many ways one can grow to so many panes.

    A table is asked [lower - 1][right - 1] for the numbers of panes at these borders.
    """
    tables = [[[1] * (number - lower) for lower in range(number)]]
    for many in range(number - 1, 0, -1):
        sums = [list(accumulate(row)) for row in tables[-1]]
        tables.append([[sums[right + 1][lower] + sums[lower + 1][right] for right in range(many - lower)]
                       for lower in range(many)])
    return tables[::-1]


def find_branches(table, lower, right):
    """Return the tuples (number, many): the numbers that can stand next, ascending, and how many codes go on so."""
    branches = []
    for number in find_numbers(lower, right):
        grown_lower, grown_right = grow_borders(lower, right, number)
        branches.append((number, table[grown_lower - 1][grown_right - 1]))
    return branches


def find_numbers(lower, right):
    """Return the numbers that can stand next, ascending."""
    return list(range(-right, 0)) + list(range(1, lower + 1))


def find_codes(number):
    """Return all codes of plans of so many panes, ascending."""
    found = [([], 1, 1)]
    for _ in range(number - 1):
        longer = []
        for code, lower, right in found:
            for step in find_numbers(lower, right):
                grown_lower, grown_right = grow_borders(lower, right, step)
                longer.append((code + [step], grown_lower, grown_right))
        found = longer
    return [code for code, _, _ in found]


def find_ways_to_touch(plan):
    """Return how many different lists of touching pairs layouts with this plan have."""
    ways = 1
    for _, ahead, behind in find_plan_segments(plan):
        # The segments that end from one side follow one another as they must,
        # those from the other side can come between them in any way.
        ways *= comb(len(ahead) + len(behind) - 2, len(ahead) - 1)
    return ways
