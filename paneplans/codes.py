"""Codes: the numbers by which a plan grows from one pane.

A number i > 0 puts the new pane below the last i panes of the lower border, a
number -j right of the last j panes of the right border. Functions named
find_.. rely on a valid plan or code.
"""

from paneplans.checks import is_number
from paneplans.errors import InvalidCode, InvalidNumber, InvalidPlan
from paneplans.layouts import MOST_PANES
from paneplans.plans import check_growing_plan, check_plan, find_plan_segments


def code_of(plan):
    """Return the code of a plan."""
    check_plan(plan)
    return find_code(plan)


def plan_of_code(code):
    """Return the plan that has this code."""
    check_code(code)
    return find_plan_of_code(code)


def pushed_plan(plan, number):
    """Return the plan that grows from a plan by this number."""
    check_growing_plan(plan)
    longer = find_code(plan) + [number]
    if not is_number(number) or find_wrong_place(longer) is not None:
        raise InvalidNumber("this number cannot stand here")
    return find_plan_of_code(longer)


def without_last(plan):
    """Return the plan that a plan grew from, and the number by which it did."""
    check_plan(plan)
    last = len(plan) - 1
    if last == 0:
        raise InvalidPlan("this plan did not grow")
    return [pane for pane in plan if pane < last], find_code(plan)[-1]


def check_code(code):
    """Raise InvalidCode unless this is a code."""
    if not is_list_of_numbers(code):
        raise InvalidCode(None)
    place = find_wrong_place(code)
    if place is not None:
        raise InvalidCode(place)


def is_list_of_numbers(thing):
    """Tell whether any object is a list of as many integers as a code may have."""
    return isinstance(thing, list) and len(thing) < MOST_PANES and all(is_number(item) for item in thing)


def find_wrong_place(numbers):
    """Return the first place whose number cannot stand there, or None."""
    lower = right = 1
    for place, number in enumerate(numbers):
        if number == 0 or not -right <= number <= lower:
            return place
        lower, right = grow_borders(lower, right, number)
    return None


def grow_borders(lower, right, number):
    """Return how many panes are at the lower and at the right border after a number."""
    if number > 0:
        return lower - number + 1, right + 1
    return lower + 1, right + number + 1


def find_code(plan):
    """Return the code of a plan."""
    # The panes below or right of which a pane was put are those ahead of its
    # segment: later panes come to lie behind it, never ahead of it.
    return [len(ahead) if kind == "level" else -len(ahead) for kind, ahead, _ in find_plan_segments(plan)]


def find_plan_of_code(code):
    """Return the plan that has this code."""
    plan = [0]
    lower = [0]
    right = [0]
    for pane, number in enumerate(code, start=1):
        # Panes that stand behind the new one in the plan are above it, the others left of it.
        if number > 0:
            plan.insert(plan.index(lower[-number]), pane)
            del lower[-number:]
        else:
            plan.insert(plan.index(right[number]) + 1, pane)
            del right[number:]
        lower.append(pane)
        right.append(pane)
    return plan
