"""Plans, codes and wrong objects for the tests, and slow answers to compare with."""

import itertools

from desks import BIG, NO_LISTS, P, assert_rejects, deep, grown
from paneplans.errors import InvalidPlan, Meeting

P_PLAN = [1, 4, 2, 0, 3]
P_CODE = [1, -1, -2, 2]
# The two rows of four that are no plans.
DOWN = [1, 3, 0, 2]
UP = [2, 0, 3, 1]


def slow_pattern(row):
    """Return the least three places that R2 rules out, by trying all."""
    for i, j, k in itertools.combinations(range(len(row)), 3):
        if k > j + 1 and (row[j + 1] < row[i] < row[k] < row[j] or row[j] < row[k] < row[i] < row[j + 1]):
            return i, j, k
    return None


def slow_four(row):
    """Return the least four places that R5 rules out, by trying all."""
    for i, j, k, l in itertools.combinations(range(len(row)), 4):
        if row[k] < row[i] < row[l] < row[j] or row[j] < row[l] < row[i] < row[k]:
            return i, j, k, l
    return None


def slow_way(plan, first, second):
    """Return how a pane lies to another one, as [3] tells it of a plan."""
    ahead = plan.index(first) < plan.index(second)
    if first < second:
        return "left" if ahead else "above"
    return "below" if ahead else "right"


def slow_drawn(plan):
    """Return the drawn layout, as [3] tells it."""
    many = len(plan)
    corners = []
    for pane in range(many):
        found = {way: [other for other in range(many) if other != pane and slow_way(plan, other, pane) == way]
                 for way in ("left", "above", "right", "below")}
        corners.append((1 + max(found["left"], default=-1), 1 + max(found["above"], default=-1),
                        min(found["right"], default=many), min(found["below"], default=many)))
    return corners


def slow_borders(layout):
    """Return the panes at the left, the upper, the right and the lower border of a layout."""
    ends = (0, 0, max(pane[2] for pane in layout), max(pane[3] for pane in layout))
    return tuple([pane for pane, corners in enumerate(layout) if corners[side] == end]
                 for side, end in enumerate(ends))


def all_plans(many):
    """Return all plans of so many panes, ascending, by trying all rows."""
    return [list(row) for row in itertools.permutations(range(many)) if slow_pattern(row) is None]


def all_codes(many):
    """Return all codes of plans of so many panes, ascending, by growing layouts."""
    if many == 1:
        return [[]]
    found = []
    for code in all_codes(many - 1):
        _, _, right, lower = slow_borders(grown(code))
        found += [code + [number] for number in range(-len(right), len(lower) + 1) if number != 0]
    return found


def nested(many, first=True, inside=True):
    """Return a plan whose tree is as deep as can be: each pane right of, or below, all before it, in turn.

    Not inside: each pane left of, or above, all behind it, in turn.
    """
    plan = []
    for pane in range(many) if inside else range(many - 1, -1, -1):
        plan = plan + [pane] if (pane % 2 == 0) == (first == inside) else [pane] + plan
    return plan


def mixed_plan(many, seed):
    """Return a plan of so many panes in no plain sequence."""
    plan, lower, right = [0], [0], [0]
    for pane in range(1, many):
        seed = (seed * 1103515245 + 12345) & 0x7FFFFFFF
        pick = (seed >> 8) % (len(lower) + len(right))
        if pick < len(lower):
            plan.insert(plan.index(lower[pick]), pane)
            lower, right = lower[:pick] + [pane], right + [pane]
        else:
            pick -= len(lower)
            plan.insert(plan.index(right[pick]) + 1, pane)
            lower, right = lower + [pane], right[:pick] + [pane]
    return plan


PLANS = [[0], [0, 1], [1, 0], P_PLAN, [3, 0, 2, 4, 1], [1, 0, 2, 4, 3], list(range(60)), list(range(59, -1, -1)),
         nested(60), nested(60, inside=False), mixed_plan(12, 1), mixed_plan(30, 2), mixed_plan(60, 3),
         mixed_plan(60, 4)]

# What is no list of the numbers from 0 on, each once, 1 to 60 of them.
NO_ROWS = NO_LISTS + [
    [], [1], [-1], [0, 0], [1, 1], [1, 2], [0, 2], [2, 0], [0, -1], [-1, 0], [0, 1, 1], [0, 1, 3], [1, 2, 3], [0, BIG],
    [BIG, 0], [False], [True], [0, True], [False, 1], [True, 0], [1, False], [0, True, 2], [0, False, 1], [0, 0, True],
    ["0"], ["0", "1"], [0, "1"], [None], [0, None], [[0]], [[0, 1]], [(0,)], [(0, 1)], [[0], [1]], [{}], [{"0": 0}],
    [0, [1]], deep(0, 18), P, [P_PLAN], [P_PLAN, P_PLAN], [Meeting(0, 1)], [0, InvalidPlan("1")], (0, 1), (1, 0),
    tuple(P_PLAN), "01", "0 1", {"0": 0, "1": 1}, list(range(61)), list(range(60, -1, -1)), list(range(1, 61)),
    list(range(-1, 59)), [0] * 60, [0] * 61, list(range(59)) + [60], list(range(59)) + [58], list(range(1000)),
    list(range(59)) + ["59"], list(range(59)) + [None], [True if pane == 1 else pane for pane in range(60)]]

# Rows that are no plans.
WRONG_ROWS = [DOWN, UP, [1, 4, 0, 3, 2], [2, 4, 0, 3, 1], [4, 1, 3, 0, 2], [1, 3, 0, 2, 4], [3, 1, 4, 2, 0],
              [4, 2, 0, 3, 1, 5], list(range(56)) + [57, 59, 56, 58], list(range(59, 3, -1)) + UP,
              [30, 59] + list(range(30)) + list(range(31, 59)), mixed_plan(60, 3)[30:] + mixed_plan(60, 3)[:30]]

# What is no list of at most 59 integers, also where numbers cannot stand.
NO_CODES = NO_LISTS + [
    [None], [True], [False], [1, True], [-1, False], ["1"], [1, "1"], [[]], [[1]], [(1,)], [{}], [1, None, 5],
    [9, None], [0, "1"], [None, 0], [[1], 1], [Meeting(1, 1)], [1, InvalidPlan("1")], deep(1, 18), (1,), (-1, 1),
    tuple(P_CODE), "1", "-", {"0": 1}, [0] * 60, [1] * 60, [-1] * 60, [BIG] * 1000, [1] * 59 + [0], [1] * 58 + [None],
    [1] * 59 + [True], [0] * 58 + [True]]

# Codes that are wrong at a place.
WRONG_CODES = [
    ([0], 0), ([2], 0), ([-2], 0), ([BIG], 0), ([-BIG], 0), ([10 ** 60], 0), ([9, 9], 0), ([0, 0], 0), ([1, 0], 1),
    ([1, 2], 1), ([1, -3], 1), ([-1, 3], 1), ([-1, -2], 1), ([-1, 0], 1), ([1, -1, -2, 4], 3), ([1, -1, -2, -2], 3),
    ([1, -1, -2, 2, 0], 4), ([1, 2, 0], 1), ([1, 0, BIG], 1), ([1] * 58 + [2], 58), ([1] * 58 + [-60], 58),
    ([-1] * 58 + [60], 58), ([-1] * 58 + [-2], 58), ([1] * 58 + [0], 58), ([0] * 59, 0), ([1] * 30 + [0] * 29, 30)]


def assert_rejects_plans(case, call):
    """Assert that a call of one argument raises InvalidPlan for whatever is no plan."""
    for thing in NO_ROWS + WRONG_ROWS:
        assert_rejects(case, lambda: call(thing), InvalidPlan, repr(thing))
