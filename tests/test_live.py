"""Tests of paneplans.live: promise 16, with 2, 12 and 15."""

import inspect
import itertools
import random
import unittest

from desks import BIG, assert_rejects, least_meeting
from paneplans.closing import closed_layout, open_sides
from paneplans.errors import (
    InvalidIndex, InvalidNumber, InvalidPane, InvalidWord, Meeting, NotAlone, NothingToUndo, PaneError)
from paneplans.joints import drag_room, dragged_layout
from paneplans.layouts import is_layout, segment_at
from paneplans.live import Desk
from paneplans.relations import falling_row, rising_row

SIDES = ("left", "top", "right", "bottom")
KINDS = ("left", "above")
WRONG_KINDS = ("", "right", "below", "Left", "left ", "top", "upright", "level", "sides", "0")
WRONG_SIDES = ("", "above", "below", "Left", "left ", "upright", "level", "sides", "0")


class SlowDesk:
    """A desk that keeps a dict of corners by names, and copies of it."""

    def __init__(self, width, height):
        self.panes = {0: (0, 0, width, height)}
        self.ever = [0]
        self.past = []

    def keep(self, panes, ever):
        point = least_meeting(list(panes.values()))
        if point is not None:
            raise Meeting(*point)
        self.past.append((self.panes, self.ever))
        self.panes, self.ever = panes, ever

    def check(self, name, word, words):
        if name not in self.panes:
            raise InvalidPane("")
        if word not in words:
            raise InvalidWord("")

    def split(self, name, kind, place):
        if len(self.panes) == 60:
            raise InvalidPane("")
        self.check(name, kind, KINDS)
        x0, y0, x1, y1 = self.panes[name]
        if kind == "left":
            parts = [(x0, y0, place, y1), (place, y0, x1, y1)]
        else:
            parts = [(x0, y0, x1, place), (x0, place, x1, y1)]
        if not all(a < c and b < d for a, b, c, d in parts):
            raise InvalidNumber("")
        new = min(set(range(99)) - set(self.ever))
        self.keep({**self.panes, name: parts[0], new: parts[1]}, self.ever + [new])

    def close(self, name, side):
        self.check(name, side, SIDES)
        left = closed_layout(list(self.panes.values()), list(self.panes).index(name), side)
        names = [other for other in self.panes if other != name]
        self.keep(dict(zip(names, left)), self.ever)

    def drag(self, name, side, place):
        self.check(name, side, SIDES)
        layout = list(self.panes.values())
        segment = segment_at(layout, list(self.panes).index(name), side)
        if segment is None:
            raise InvalidWord("")
        self.keep(dict(zip(self.panes, dragged_layout(layout, segment, place))), self.ever)

    def undo(self):
        if not self.past:
            raise NothingToUndo("")
        self.panes, self.ever = self.past.pop()

    def undo_to(self, index):
        if not 0 <= index <= len(self.past):
            raise InvalidIndex("")
        while len(self.past) > index:
            self.undo()


def told(desk):
    """Return all that a desk tells of itself."""
    return (desk.width, desk.height, desk.names, desk.panes, desk.falling(), desk.rising(), len(desk), desk.mark())


def outcome(call):
    """Return what a call returns, or the class and the fields of its error."""
    try:
        return call()
    except PaneError as error:
        return error.__class__, vars(error)


def picked(mixer, names):
    """Return a name and where there may be one."""
    return mixer.choice(names + names + [-1, max(names) + 1])


def any_call(mixer, desk):
    """Return the name and the arguments of a call, most of them with valid arguments."""
    name = mixer.choice(desk.names)
    x0, y0, x1, y1 = desk.panes[desk.names.index(name)]
    kind, side = mixer.choice(KINDS), mixer.choice(SIDES)
    name, place = picked(mixer, [name]), mixer.randint(*((x0, x1) if kind == "left" else (y0, y1)))
    found = [("split", name, kind, place)] * 6 + [("undo",), ("undo_to", mixer.randint(0, len(desk) + 1))]
    found += [("close", name, side)] * 2 + [("drag", name, side, mixer.randint(0, max(desk.width, desk.height)))] * 4
    return mixer.choice(found)


def grown_desk(many, seed):
    """Return a desk with so many panes."""
    mixer = random.Random(seed)
    desk = Desk(10 ** 6, 10 ** 6)
    while len(desk.names) < many:
        areas = [(x1 - x0) * (y1 - y0) for x0, y0, x1, y1 in desk.panes]
        place = areas.index(max(areas))
        x0, y0, x1, y1 = desk.panes[place]
        kind = mixer.choice(KINDS)
        at = mixer.randint(x0 + 1, x1 - 1) if kind == "left" else mixer.randint(y0 + 1, y1 - 1)
        outcome(lambda: desk.split(desk.names[place], kind, at))
    return desk


class InterfaceTest(unittest.TestCase):
    def test_methods_and_arguments(self):
        self.assertEqual(Desk.__module__, "paneplans.live")
        self.assertEqual(list(inspect.signature(Desk).parameters), ["width", "height"])
        methods = {"split": ["name", "kind", "place"], "close": ["name", "side"], "drag": ["name", "side", "place"],
                   "undo": [], "mark": [], "undo_to": ["index"], "twin": [], "falling": [], "rising": [],
                   "__len__": []}
        for name, names in methods.items():
            self.assertEqual(list(inspect.signature(vars(Desk)[name]).parameters), ["self"] + names)
        for name in ("width", "height", "names", "panes"):
            self.assertIsInstance(vars(Desk)[name], property)

    def test_calls_by_name(self):
        desk = Desk(height=4, width=7)
        self.assertEqual((desk.width, desk.height), (7, 4))
        self.assertIsNone(desk.split(place=3, kind="left", name=0))
        self.assertIsNone(desk.drag(place=2, side="right", name=0))
        self.assertIsNone(desk.close(side="left", name=1))
        self.assertIsNone(desk.undo_to(index=1))
        self.assertEqual(desk.panes, [(0, 0, 3, 4), (3, 0, 7, 4)])

    def test_what_is_returned_may_be_changed(self):
        desk = grown_desk(9, 1)
        before = told(desk)
        for _ in range(2):
            for found in told(desk):
                if isinstance(found, list):
                    found.append("spoilt")
                    found.reverse()
            self.assertEqual(told(desk), before)
        self.assertIsNot(desk.names, desk.names)
        self.assertIsNot(desk.panes, desk.panes)

    def test_compared_by_identity(self):
        desk = Desk(7, 4)
        self.assertEqual(desk, desk)
        self.assertNotEqual(desk, Desk(7, 4))
        self.assertNotEqual(desk, desk.twin())
        self.assertEqual(len({desk: 1, desk.twin(): 2, Desk(7, 4): 3}), 3)


class NewDeskTest(unittest.TestCase):
    def test_desks(self):
        for width, height in ((7, 4), (1, 1), (BIG, 1), (1, BIG), (BIG, BIG), (10 ** 31, 2)):
            desk = Desk(width, height)
            self.assertEqual(told(desk), (width, height, [0], [(0, 0, width, height)], [0], [0], 0, 0))
            self.assertEqual([part.__class__ for part in told(desk)], [int, int, list, list, list, list, int, int])

    def test_wrong_numbers(self):
        for wrong in (0, -1, -BIG):
            assert_rejects(self, lambda: Desk(wrong, 4), InvalidNumber)
            assert_rejects(self, lambda: Desk(4, wrong), InvalidNumber)
            assert_rejects(self, lambda: Desk(wrong, wrong), InvalidNumber)


class SplitTest(unittest.TestCase):
    def test_panes(self):
        desk = Desk(7, 4)
        self.assertIsNone(desk.split(0, "left", 3))
        self.assertEqual(told(desk), (7, 4, [0, 1], [(0, 0, 3, 4), (3, 0, 7, 4)], [0, 1], [0, 1], 1, 1))
        self.assertIsNone(desk.split(0, "above", 1))
        self.assertEqual(told(desk), (7, 4, [0, 1, 2], [(0, 0, 3, 1), (3, 0, 7, 4), (0, 1, 3, 4)], [0, 2, 1], [2, 0, 1],
                                      2, 2))

    def test_places(self):
        for kind, last in (("left", 7), ("above", 4)):
            for place in (-BIG, -1, 0, last, last + 1, BIG):
                desk = Desk(7, 4)
                assert_rejects(self, lambda: desk.split(0, kind, place), InvalidNumber)
                self.assertEqual(told(desk), told(Desk(7, 4)))
            for place in (1, last - 1):
                desk = Desk(7, 4)
                desk.split(0, kind, place)
                self.assertIs(is_layout(desk.panes), True)
                for wrong in (0, place, last):
                    assert_rejects(self, lambda: desk.split(0, kind, wrong), InvalidNumber)
                    assert_rejects(self, lambda: desk.split(1, kind, wrong), InvalidNumber)
        small = Desk(1, 1)
        for kind, place in itertools.product(KINDS, (0, 1, 2)):
            assert_rejects(self, lambda: small.split(0, kind, place), InvalidNumber)

    def test_great_places(self):
        desk = Desk(BIG, BIG)
        desk.split(0, "left", BIG - 1)
        desk.split(0, "above", BIG - 2)
        self.assertEqual(desk.panes, [(0, 0, BIG - 1, BIG - 2), (BIG - 1, 0, BIG, BIG), (0, BIG - 2, BIG - 1, BIG)])

    def test_meetings(self):
        desk = Desk(6, 3)
        for call in ((0, "above", 1), (1, "above", 2), (0, "left", 2), (2, "left", 2)):
            desk.split(*call)
        before = told(desk)
        # Both ends of the cut would come to ends of other ones, then only one of them.
        wrong = assert_rejects(self, lambda: desk.split(1, "left", 2), Meeting)
        self.assertEqual((wrong.x, wrong.y), (2, 1))
        self.assertEqual(told(desk), before)
        desk.drag(0, "right", 3)
        wrong = assert_rejects(self, lambda: desk.split(1, "left", 2), Meeting)
        self.assertEqual((wrong.x, wrong.y), (2, 2))
        desk.split(1, "left", 4)
        self.assertIs(is_layout(desk.panes), True)

    def test_wrong_arguments(self):
        desk = Desk(7, 4)
        desk.split(0, "left", 3)
        before = told(desk)
        for name in (-1, 2, 60, BIG, -BIG):
            for kind, place in (("left", 1), ("right", 1), ("left", 0)):
                assert_rejects(self, lambda: desk.split(name, kind, place), InvalidPane)
        for kind in WRONG_KINDS:
            for place in (1, 0, BIG):
                assert_rejects(self, lambda: desk.split(0, kind, place), InvalidWord)
        self.assertEqual(told(desk), before)

    def test_sixty_panes(self):
        desk = Desk(60, 1)
        for place in range(59):
            desk.split(place, "left", place + 1)
        self.assertEqual(desk.names, list(range(60)))
        self.assertEqual(desk.panes, [(x, 0, x + 1, 1) for x in range(60)])
        self.assertEqual(len(desk), 59)
        before = told(desk)
        for name, kind, place in ((0, "left", 1), (99, "left", 1), (0, "right", 1), (0, "above", 0), (-1, "", -1)):
            assert_rejects(self, lambda: desk.split(name, kind, place), InvalidPane)
        self.assertEqual(told(desk), before)
        desk.close(59, "left")
        desk.split(58, "left", 59)
        self.assertEqual(desk.names, list(range(59)) + [60])


class NamesTest(unittest.TestCase):
    def test_new_names(self):
        desk = Desk(9, 9)
        desk.split(0, "left", 5)
        desk.close(0, "right")
        self.assertEqual(desk.names, [1])
        desk.split(1, "left", 5)
        self.assertEqual(desk.names, [1, 2])
        desk.close(2, "left")
        desk.split(1, "above", 5)
        self.assertEqual((desk.names, desk.panes), ([1, 3], [(0, 0, 9, 5), (0, 5, 9, 9)]))

    def test_undone_names_are_forgotten(self):
        desk = Desk(9, 9)
        desk.split(0, "left", 5)
        desk.split(0, "above", 5)
        desk.undo()
        desk.split(1, "above", 5)
        self.assertEqual(desk.names, [0, 1, 2])
        desk.undo_to(0)
        desk.split(0, "above", 3)
        self.assertEqual(desk.names, [0, 1])
        # What only a close took away was there.
        desk.close(1, "top")
        desk.split(0, "above", 3)
        self.assertEqual(desk.names, [0, 2])
        desk.undo()
        desk.undo()
        desk.split(0, "left", 3)
        self.assertEqual(desk.names, [0, 1, 2])

    def test_calls_that_fail_take_no_name(self):
        desk = Desk(9, 9)
        assert_rejects(self, lambda: desk.split(0, "left", 9), InvalidNumber)
        desk.split(0, "left", 5)
        self.assertEqual(desk.names, [0, 1])


class CloseTest(unittest.TestCase):
    def test_panes(self):
        desk = Desk(7, 4)
        desk.split(0, "left", 3)
        desk.split(0, "above", 1)
        self.assertIsNone(desk.close(1, "left"))
        self.assertEqual(told(desk), (7, 4, [0, 2], [(0, 0, 7, 1), (0, 1, 7, 4)], [0, 2], [2, 0], 3, 3))

    def test_as_closed_layout(self):
        for seed in range(12):
            desk = grown_desk(3 + seed, seed)
            for name, side in itertools.product(desk.names, SIDES):
                twin = desk.twin()
                pane = desk.names.index(name)
                found = outcome(lambda: twin.close(name, side))
                expected = outcome(lambda: closed_layout(desk.panes, pane, side))
                if isinstance(expected, tuple):
                    self.assertEqual((found, told(twin)), (expected, told(desk)))
                else:
                    self.assertEqual(twin.panes, expected)
                    self.assertEqual(twin.names, [other for other in desk.names if other != name])

    def test_errors(self):
        desk = Desk(7, 4)
        for side in SIDES:
            assert_rejects(self, lambda: desk.close(0, side), NotAlone)
        desk.split(0, "left", 3)
        desk.split(0, "above", 2)
        for name, side in ((0, "right"), (0, "left"), (0, "top"), (1, "right"), (2, "bottom")):
            assert_rejects(self, lambda: desk.close(name, side), NotAlone)
        for name, side in itertools.product((-1, 3, BIG), ("left", "nowhere")):
            assert_rejects(self, lambda: desk.close(name, side), InvalidPane)
        for name, side in itertools.product((0, 1), WRONG_SIDES):
            assert_rejects(self, lambda: desk.close(name, side), InvalidWord)
        self.assertEqual(len(desk), 2)

    def test_meeting(self):
        desk = Desk(4, 9)
        desk.split(0, "left", 1)
        desk.split(1, "left", 3)
        for name, place in ((0, 3), (3, 5), (2, 3), (5, 5)):
            desk.split(name, "above", place)
        before = told(desk)
        for side, point in (("left", (3, 3)), ("right", (1, 3))):
            wrong = assert_rejects(self, lambda: desk.close(1, side), Meeting)
            self.assertEqual((wrong.x, wrong.y), point)
        self.assertEqual(told(desk), before)


class DragTest(unittest.TestCase):
    def test_panes(self):
        desk = Desk(7, 4)
        desk.split(0, "left", 3)
        self.assertIsNone(desk.drag(0, "right", 5))
        self.assertEqual(desk.panes, [(0, 0, 5, 4), (5, 0, 7, 4)])
        self.assertIsNone(desk.drag(1, "left", 1))
        self.assertEqual(desk.panes, [(0, 0, 1, 4), (1, 0, 7, 4)])
        # A place that it has is a call that can be undone, too.
        desk.drag(1, "left", 1)
        self.assertEqual(len(desk), 4)

    def test_as_dragged_layout(self):
        for seed in range(8):
            desk = grown_desk(3 + seed, seed)
            for name, side in itertools.product(desk.names, SIDES):
                segment = segment_at(desk.panes, desk.names.index(name), side)
                if segment is None:
                    assert_rejects(self, lambda: desk.drag(name, side, 1), InvalidWord)
                    assert_rejects(self, lambda: desk.drag(name, side, -1), InvalidWord)
                    continue
                least, greatest = drag_room(desk.panes, segment)
                for place in (least - 1, least, (least + greatest) // 2, greatest, greatest + 1):
                    twin = desk.twin()
                    found = outcome(lambda: twin.drag(name, side, place))
                    expected = outcome(lambda: dragged_layout(desk.panes, segment, place))
                    if isinstance(expected, tuple):
                        self.assertEqual((found, told(twin)), (expected, told(desk)))
                    else:
                        self.assertEqual((twin.panes, twin.names), (expected, desk.names))

    def test_errors(self):
        desk = Desk(7, 4)
        for side in SIDES:
            assert_rejects(self, lambda: desk.drag(0, side, 1), InvalidWord)
        desk.split(0, "left", 3)
        for name, side, place in itertools.product((-1, 2, BIG), ("left", "right", "nowhere"), (1, -1)):
            assert_rejects(self, lambda: desk.drag(name, side, place), InvalidPane)
        for name, side, place in itertools.product((0, 1), WRONG_SIDES + ("top", "bottom"), (1, -1)):
            assert_rejects(self, lambda: desk.drag(name, side, place), InvalidWord)
        for place in (0, 7, -1, 8, BIG, -BIG):
            assert_rejects(self, lambda: desk.drag(0, "right", place), InvalidNumber)
            assert_rejects(self, lambda: desk.drag(1, "left", place), InvalidNumber)
        self.assertEqual((desk.panes, len(desk)), ([(0, 0, 3, 4), (3, 0, 7, 4)], 1))


class UndoTest(unittest.TestCase):
    def test_undo(self):
        desk = Desk(7, 4)
        assert_rejects(self, desk.undo, NothingToUndo)
        states = [told(desk)]
        for call in (("split", 0, "left", 3), ("split", 1, "above", 2), ("drag", 0, "right", 5), ("close", 0, "right")):
            getattr(desk, call[0])(*call[1:])
            states.append(told(desk))
        for state in states[-2::-1]:
            self.assertIsNone(desk.undo())
            self.assertEqual(told(desk), state)
        assert_rejects(self, desk.undo, NothingToUndo)
        self.assertEqual(told(desk), states[0])

    def test_undo_to(self):
        for index in range(13):
            desk, other = grown_desk(13, 4), grown_desk(13, 4)
            self.assertEqual(len(desk), 12)
            self.assertIsNone(desk.undo_to(index))
            while len(other) > index:
                other.undo()
            self.assertEqual(told(desk), told(other))
            self.assertEqual(desk.mark(), index)
            for wrong in (-1, index + 1, 13, BIG, -BIG):
                assert_rejects(self, lambda: desk.undo_to(wrong), InvalidIndex)
            self.assertEqual(told(desk), told(other))

    def test_a_mark(self):
        desk = Desk(7, 4)
        desk.split(0, "left", 3)
        mark, before = desk.mark(), told(desk)
        desk.split(0, "above", 3)
        desk.close(1, "left")
        desk.undo_to(mark)
        self.assertEqual(told(desk), before)
        self.assertEqual((Desk(1, 1).mark(), Desk(1, 1).undo_to(0)), (0, None))


class TwinTest(unittest.TestCase):
    def test_twins_go_their_own_ways(self):
        desk = grown_desk(9, 2)
        before = told(desk)
        twin = desk.twin()
        self.assertIs(twin.__class__, Desk)
        self.assertEqual(told(twin), before)
        twin.undo()
        twin.undo_to(3)
        twin.split(0, "left", twin.panes[0][0] + 1)
        self.assertEqual(told(desk), before)
        kept = told(twin)
        desk.undo_to(0)
        desk.split(0, "above", 5)
        self.assertEqual(told(twin), kept)
        twin.undo_to(0)
        self.assertEqual(told(twin), told(Desk(10 ** 6, 10 ** 6)))

    def test_names_that_were_there(self):
        desk = Desk(9, 9)
        desk.split(0, "left", 5)
        desk.close(1, "left")
        twin = desk.twin()
        twin.split(0, "left", 5)
        desk.split(0, "above", 5)
        self.assertEqual((twin.names, desk.names), ([0, 2], [0, 2]))
        self.assertEqual((len(twin), len(desk)), (3, 3))


class ManyCallsTest(unittest.TestCase):
    def check_calls(self, size, many, seed):
        mixer = random.Random(seed)
        desk, slow = Desk(*size), SlowDesk(*size)
        for step in range(many):
            call, *arguments = any_call(mixer, desk)
            before = told(desk)
            found = outcome(lambda: getattr(desk, call)(*arguments))
            self.assertEqual(found, outcome(lambda: getattr(slow, call)(*arguments)), repr((call, arguments)))
            if found is not None:
                self.assertEqual(told(desk), before)
            layout = list(slow.panes.values())
            names = list(slow.panes)
            rows = [[names[pane] for pane in row(layout)] for row in (falling_row, rising_row)]
            self.assertEqual(told(desk), (*size, sorted(names), [slow.panes[name] for name in sorted(names)], *rows,
                                          len(slow.past), len(slow.past)))
            self.assertIs(is_layout(desk.panes), True)

    def test_twenty_calls(self):
        for seed in range(60):
            self.check_calls(((6, 5), (9, 9), (50, 40))[seed % 3], 20, seed)

    def test_sixty_calls(self):
        for seed in range(30):
            self.check_calls(((8, 8), (20, 30), (BIG, 99))[seed % 3], 60, seed)

    def test_sixty_panes(self):
        for seed in range(3):
            desk = grown_desk(60, seed)
            self.assertEqual(desk.names, list(range(60)))
            self.assertIs(is_layout(desk.panes), True)
            for name in desk.names[::7]:
                for side in open_sides(desk.panes, name):
                    twin = desk.twin()
                    twin.close(name, side)
                    self.assertEqual(len(twin.names), 59)

    def test_equal_calls(self):
        for seed in range(5):
            self.assertEqual(told(grown_desk(20, seed)), told(grown_desk(20, seed)))


if __name__ == "__main__":
    unittest.main()
