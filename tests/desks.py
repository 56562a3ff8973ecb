"""Layouts and wrong objects for the tests, and slow answers to compare with."""

import copy
import inspect

from paneplans.errors import InvalidLayout, InvalidPane, Meeting

P = [(0, 0, 2, 1), (2, 0, 3, 2), (1, 2, 3, 3), (0, 1, 1, 3), (1, 1, 2, 2)]
P_SEGMENTS = [("level", 1, 0, 2), ("level", 2, 1, 3), ("upright", 1, 1, 3), ("upright", 2, 0, 2)]
ONE = [(0, 0, 7, 4)]
BESIDE = [(0, 0, 2, 3), (2, 0, 5, 3)]
STACKED = [(0, 0, 3, 2), (0, 2, 3, 5)]
# Whole cuts: a column at the left, and right of it a row of two above a wide pane.
CUT = [(0, 0, 1, 4), (1, 0, 2, 2), (2, 0, 5, 2), (1, 2, 5, 4)]
# Two upright segments on x = 2, parted by the pane between them.
PARTED_UPRIGHT = [(0, 0, 2, 1), (2, 0, 4, 1), (0, 1, 4, 2), (0, 2, 2, 3), (2, 2, 4, 3)]
# Two level segments on y = 2, parted likewise.
PARTED_LEVEL = [(0, 0, 1, 2), (0, 2, 1, 4), (1, 0, 2, 4), (2, 0, 3, 2), (2, 2, 3, 4)]
# Parted by one level line only, at different places of it.
SHIFTED = [(0, 0, 1, 1), (1, 0, 3, 1), (0, 1, 2, 2), (2, 1, 3, 2)]
# The same order, but the ends at the level line follow one another differently.
SHIFTED_BACK = [(0, 0, 2, 1), (2, 0, 3, 1), (0, 1, 1, 2), (1, 1, 3, 2)]
# Four panes side by side whose first and last are not at one segment.
STRIP = [(0, 0, 1, 2), (1, 0, 2, 2), (2, 0, 3, 2), (3, 0, 4, 2)]
BIG = 10 ** 30 - 1


def strip(many):
    """Return so many panes side by side."""
    return [(x, 0, x + 1, 1) for x in range(many)]


def tower(many):
    """Return so many panes one above the other."""
    return [(0, y, 1, y + 1) for y in range(many)]


def scaled(layout, factor):
    """Return a layout with all corners that many times as far."""
    return [tuple(place * factor for place in corners) for corners in layout]


def turned(layout):
    """Return a layout with x and y exchanged."""
    return [(y0, x0, y1, x1) for x0, y0, x1, y1 in layout]


def grown(numbers):
    """Return the layout that grows by these numbers: a new pane at the lower or the right border."""
    panes = [(0, 0, 1, 1)]
    for number in numbers:
        width = max(pane[2] for pane in panes)
        height = max(pane[3] for pane in panes)
        if number > 0:
            lower = sorted(pane for pane in panes if pane[3] == height)
            start = lower[-number][0]
            panes = [(a, b, c, d + 1) if d == height and a < start else (a, b, c, d) for a, b, c, d in panes]
            panes.append((start, height, width, height + 1))
        else:
            right = sorted((pane for pane in panes if pane[2] == width), key=lambda pane: pane[1])
            start = right[number][1]
            panes = [(a, b, c + 1, d) if c == width and b < start else (a, b, c, d) for a, b, c, d in panes]
            panes.append((width, start, width + 1, height))
    return panes


def mixed(many, seed):
    """Return a layout of so many panes that has pinwheels and lies in no plain sequence."""
    numbers = []
    for _ in range(many - 1):
        panes = grown(numbers)
        lower = sum(pane[3] == max(other[3] for other in panes) for pane in panes)
        right = sum(pane[2] == max(other[2] for other in panes) for pane in panes)
        seed = (seed * 1103515245 + 12345) & 0x7FFFFFFF
        pick = (seed >> 8) % (lower + right)
        numbers.append(pick + 1 if pick < lower else -(pick - lower + 1))
    panes = grown(numbers)
    step = next(step for step in (7, 11, 13, 17) if many % step)
    return [panes[(index * step + 3) % many] for index in range(many)]


def all_tilings(width, height, most):
    """Return all ways to tile a desk of this size with at most so many panes."""
    found = []

    def extend(panes, taken):
        free = [(y, x) for y in range(height) for x in range(width) if (x, y) not in taken]
        if not free:
            found.append(panes)
        elif len(panes) < most:
            y0, x0 = free[0]
            for x1 in range(x0 + 1, width + 1):
                for y1 in range(y0 + 1, height + 1):
                    room = {(x, y) for x in range(x0, x1) for y in range(y0, y1)}
                    if not room & taken:
                        extend(panes + [(x0, y0, x1, y1)], taken | room)

    extend([], frozenset())
    return found


def four_meet(panes):
    """Tell whether four panes have a corner at one point."""
    corners = [point for a, b, c, d in panes for point in ((a, b), (a, d), (c, b), (c, d))]
    return any(corners.count(point) == 4 for point in corners)


def least_meeting(panes):
    """Return the least point at which four panes have a corner, None for none."""
    corners = [point for a, b, c, d in panes for point in ((a, b), (a, d), (c, b), (c, d))]
    return min([point for point in corners if corners.count(point) == 4], default=None)


def all_layouts(width, height, most):
    """Return all layouts of a desk of this size with at most so many panes."""
    return [panes for panes in all_tilings(width, height, most) if not four_meet(panes)]


def owners(layout):
    """Return for each unit square of a small desk the pane that covers it."""
    return {(x, y): pane for pane, (a, b, c, d) in enumerate(layout)
            for x in range(a, c) for y in range(b, d)}


def slow_lines(layout):
    """Return the segments of a small desk, found square by square."""
    owner = owners(layout)
    width = max(pane[2] for pane in layout)
    height = max(pane[3] for pane in layout)
    found = []
    for x in range(1, width):
        parted = [owner[x - 1, y] != owner[x, y] for y in range(height)]
        found += [("upright", x, first, last) for first, last in runs(parted)]
    for y in range(1, height):
        parted = [owner[x, y - 1] != owner[x, y] for x in range(width)]
        found += [("level", y, first, last) for first, last in runs(parted)]
    return sorted(found)


def runs(flags):
    """Return where runs of true flags begin and end."""
    found = []
    for place, flag in enumerate(flags):
        if flag and found and found[-1][1] == place:
            found[-1] = (found[-1][0], place + 1)
        elif flag:
            found.append((place, place + 1))
    return found


def slow_touching(layout):
    """Return the touching pairs of a small desk, found square by square."""
    owner = owners(layout)
    found = set()
    for (x, y), pane in owner.items():
        for beside in ((x + 1, y), (x, y + 1)):
            other = owner.get(beside, pane)
            if other != pane:
                found.add((min(pane, other), max(pane, other)))
    return sorted(found)


def slow_along(layout, segment):
    """Return the panes along a segment of a small desk, found square by square."""
    owner = owners(layout)
    kind, place, first, last = segment
    if kind == "upright":
        sides = [[owner[x, y] for y in range(first, last)] for x in (place - 1, place)]
    else:
        sides = [[owner[x, y] for x in range(first, last)] for y in (place - 1, place)]
    return tuple(list(dict.fromkeys(side)) for side in sides)


def slow_steps(layout):
    """Return the pairs (a, b) with a at the left and b at the right side of one segment, and those above."""
    left, above = set(), set()
    for segment in slow_lines(layout):
        ahead, behind = slow_along(layout, segment)
        pairs = left if segment[0] == "upright" else above
        pairs.update((a, b) for a in ahead for b in behind)
    return left, above


def closed(pairs, many):
    """Return the pairs that can be had by going from pair to pair."""
    reach = [{b for a, b in pairs if a == pane} for pane in range(many)]
    for middle in range(many):
        for pane in range(many):
            if middle in reach[pane]:
                reach[pane] |= reach[middle]
    return {(a, b) for a in range(many) for b in reach[a]}


def slow_ways(layout):
    """Return for each two panes the list of all ways in which the first lies to the second."""
    many = len(layout)
    left, above = (closed(pairs, many) for pairs in slow_steps(layout))
    ways = {(a, b): [] for a in range(many) for b in range(many)}
    for a, b in ways:
        ways[a, b] += ["left"] * ((a, b) in left) + ["right"] * ((b, a) in left)
        ways[a, b] += ["above"] * ((a, b) in above) + ["below"] * ((b, a) in above)
    return ways


def deep(thing, times):
    """Return an object in so many lists."""
    for _ in range(times):
        thing = [thing]
    return thing


# Objects that are nothing that the package takes.
NO_LISTS = [None, True, False, 0, 1, -1, BIG, 10 ** 60, "", "left", "0,0,1,1", {}, {"0": (0, 0, 1, 1)},
            (), (0, 0, 1, 1), ((0, 0, 1, 1),), tuple(P), InvalidPane("0"), Meeting(1, 2)]

NO_PANES = [None, True, 0, "", "0,0,1,1", {}, [], (), [0, 0, 1, 1], (0, 0, 1), (0, 0, 1, 1, 1),
            (True, 0, 2, 1), (0, False, 1, 1), (0, 0, True, 1), (0, 0, 1, True), ("0", 0, 1, 1),
            (0, None, 1, 1), (0, 0, [1], 1), (0, 0, 1, (1,)), (0, 0, {}, 1), ((0, 0), (1, 1)),
            (0, 0, 0, 1), (0, 0, 1, 0), (1, 0, 1, 1), (0, 1, 1, 1), (2, 0, 1, 1), (0, 2, 1, 1),
            (-1, 0, 1, 1), (0, -1, 1, 1), (-2, -2, -1, -1), (-BIG, 0, 1, 1), deep((0, 0, 1, 1), 15),
            InvalidPane("0"), Meeting(0, 0)]

# Wrong layouts, each with the field that InvalidLayout must have.
WRONG_LAYOUTS = [(thing, None) for thing in NO_LISTS] + [(deep([], 1), 0)] + [
    ([], None),
    (strip(61), None),
    (tower(61), None),
    ([None] * 61, None),
    ([(0, 0, 1, 1)] * 61, None),
    ([None] * 60, 0),
    ([(0, 0, 1, 1)] * 60, 1),
    (strip(59) + [(58, 0, 59, 1)], 59),
    # Overlaps: in part, whole, equal; the first wrong item decides.
    ([(0, 0, 2, 1), (1, 0, 3, 1)], 1),
    ([(0, 0, 3, 3), (1, 1, 2, 2)], 1),
    ([(1, 1, 2, 2), (0, 0, 3, 3)], 1),
    ([(0, 1, 3, 2), (1, 0, 2, 3)], 1),
    ([(0, 0, 1, 1), (0, 0, 1, 1)], 1),
    ([(0, 0, 1, 1), (5, 5, 6, 6), (0, 0, 1, 1)], 2),
    ([(0, 0, 2, 1), (1, 0, 3, 1), None], 1),
    ([(0, 0, 2, 1), None, (1, 0, 3, 1)], 1),
    # The areas make up the desk, but there are an overlap and a gap.
    ([(0, 0, 1, 1), (0, 0, 1, 1), (2, 0, 3, 1)], 1),
    # Gaps: between panes, at the border, in the middle; a desk that does not begin at (0, 0).
    ([(0, 0, 1, 1), (2, 0, 3, 1)], None),
    ([(0, 0, 1, 1), (0, 2, 1, 3)], None),
    ([(0, 0, 2, 2), (2, 0, 3, 1)], None),
    ([(0, 0, 1, 1), (1, 1, 2, 2)], None),
    (P[:4], None),
    ([(1, 0, 2, 1)], None),
    ([(0, 1, 1, 2)], None),
    ([(1, 1, 3, 3)], None),
    ([(x0 + 1, y0, x1 + 1, y1) for x0, y0, x1, y1 in P], None),
    ([(x0, y0 + BIG, x1, y1 + BIG) for x0, y0, x1, y1 in P], None),
    # Four panes at a point.
    ([(0, 0, 1, 1), (1, 0, 2, 1), (0, 1, 1, 2), (1, 1, 2, 2)], None),
    ([(0, 0, 2, 1), (2, 0, 5, 1), (0, 1, 2, 3), (2, 1, 3, 3), (3, 1, 5, 3)], None),
    (scaled([(0, 0, 1, 1), (1, 0, 2, 1), (0, 1, 1, 2), (1, 1, 2, 2)], 10 ** 29), None),
] + [([thing], 0) for thing in NO_PANES] + [(BESIDE + [thing], 2) for thing in NO_PANES]

# Whatever is no segment of P.
NO_SEGMENTS = NO_LISTS + [
    [], P, deep("level", 15), list(P_SEGMENTS[0]), P_SEGMENTS, (P_SEGMENTS[0],),
    ("level", 1, 0), ("level", 1, 0, 2, 0), (1, 0, 2, "level"), ("level", 1, 2, 0),
    ("level", 1, 0, 1), ("level", 1, 1, 2), ("level", 1, 0, 3), ("level", 2, 0, 2),
    ("upright", 1, 0, 2), ("Level", 1, 0, 2), ("left", 1, 0, 2), ("", 1, 0, 2),
    ("level", True, 0, 2), ("level", 1, False, 2), ("level", "1", 0, 2),
    ("level", 1, 0, [2]), ("level", None, 0, 2), ("level", -1, 0, 2), ("level", 1, -1, 2),
    ("level", BIG, 0, 2), ("level", 10 ** 60, 0, 2), (["level"], 1, 0, 2),
    (None, 1, 0, 2), ({}, 1, 0, 2), (Meeting(1, 2), 1, 0, 2), ("upright", True, True, 3),
    ("level", 0, 0, 3), ("level", 3, 0, 3), ("upright", 0, 0, 3), ("upright", 3, 0, 3)]

# The named example, ordinary layouts, and the greatest ones.
LAYOUTS = [P, ONE, BESIDE, STACKED, CUT, PARTED_UPRIGHT, PARTED_LEVEL, SHIFTED, SHIFTED_BACK, STRIP,
           [(0, 0, 1, 1)], strip(60), tower(60), mixed(12, 1), mixed(30, 2), mixed(60, 3), mixed(60, 4)]


def assert_rejects(case, call, error, text=""):
    """Assert that a call raises exactly this error, and return it."""
    with case.assertRaises(error, msg=text) as caught:
        call()
    case.assertIs(caught.exception.__class__, error, text)
    return caught.exception


def assert_rejects_layouts(case, call):
    """Assert that a call of one argument raises InvalidLayout with the right field for each wrong layout."""
    for thing, pane in WRONG_LAYOUTS:
        wrong = assert_rejects(case, lambda: call(thing), InvalidLayout, repr(thing))
        case.assertEqual(wrong.pane, pane, repr(thing))
        case.assertNotIsInstance(wrong.pane, bool)


def assert_interface(case, module, functions):
    """Assert that a module defines these functions itself, with these names of arguments."""
    for name, names in functions.items():
        function = getattr(module, name)
        case.assertEqual(function.__module__, module.__name__, name)
        case.assertEqual(list(inspect.signature(function).parameters), names, name)


def assert_steady(case, function, arguments, names):
    """Assert that equal calls answer alike, by name too, whatever is done to an answer, and change no argument."""
    kept = copy.deepcopy(arguments)
    answer = function(*arguments)
    expected = copy.deepcopy(answer)
    case.assertEqual(arguments, kept, function.__name__)
    spoil(answer)
    case.assertEqual(arguments, kept, function.__name__)
    case.assertEqual(function(*arguments), expected, function.__name__)
    case.assertEqual(function(**dict(zip(names, arguments))), expected, function.__name__)
    case.assertEqual(function(*copy.deepcopy(arguments)), expected, function.__name__)
    case.assertEqual(len(lists_in(expected)), len({id(found) for found in lists_in(expected)}))


def lists_in(answer):
    """Return all lists of an answer, itself among them."""
    inner = answer if isinstance(answer, (list, tuple)) else []
    return [answer] * isinstance(answer, list) + [found for item in inner for found in lists_in(item)]


def spoil(answer):
    """Change all lists of an answer."""
    for found in lists_in(answer):
        found.append("spoilt")
