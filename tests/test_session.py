"""Tests of paneplans.session: promise 18, with 2, 16 and 17."""

import random
import unittest

from desks import BIG, assert_interface
from paneplans import session as module
from paneplans.closing import open_sides
from paneplans.errors import PaneError
from paneplans.live import Desk
from paneplans.relations import plan_of, way_of
from paneplans.session import session

# Words that are no numbers, none of them empty.
NO_NUMBERS = ["-", "--1", "+1", "-0", "00", "01", "-01", "1.0", "1e0", "0x1", "1_0", "one", "left", "1" * 31, "0" * 31,
              "-" + "1" * 31, "0,", "#0", "?"]


def answers(*lines):
    """Return the list of the answers to lines."""
    return session("\n".join(lines)).split("\n")


def answers_on(lines, start=("desk 9 9", "split 0 left 4", "split 1 above 6")):
    """Return the answers to lines behind those that make a desk with three panes."""
    found = answers(*start, *lines)
    assert found[:len(start)] == ["ok"] * len(start)
    return found[len(start):]


def told(desk):
    """Return what lines tell of a desk."""
    words = [desk.names, desk.falling(), desk.rising(), plan_of(desk.panes)]
    words += [open_sides(desk.panes, pane) for pane in range(len(desk.panes))]
    found = [" ".join(map(str, row)) or "-" for row in words]
    return found + [",".join(map(str, corners)) for corners in desk.panes]


def tell_lines(desk):
    """Return the lines that ask for this."""
    return (["names", "falling", "rising", "plan"] + [f"open {name}" for name in desk.names]
            + [f"pane {name}" for name in desk.names])


class InterfaceTest(unittest.TestCase):
    def test_function_and_argument(self):
        assert_interface(self, module, {"session": ["rows"]})
        self.assertEqual(session(rows="desk 1 1"), "ok")

    def test_equal_calls(self):
        rows = "desk 9 9\nsplit 0 left 4\nnames\nundo\nnames"
        self.assertEqual([session(rows)] * 2, ["ok\nok\n0 1\nok\n0"] * 2)
        # Each session begins without a desk.
        self.assertEqual(session("names"), "?")


class LinesTest(unittest.TestCase):
    def test_each_kind_of_line(self):
        expected = [
            ("desk 10 8", "ok"), ("names", "0"), ("pane 0", "0,0,10,8"), ("falling", "0"), ("rising", "0"),
            ("plan", "0"), ("open 0", "-"), ("split 0 left 4", "ok"), ("split 1 above 3", "ok"), ("names", "0 1 2"),
            ("pane 2", "4,3,10,8"), ("falling", "0 1 2"), ("rising", "0 2 1"), ("plan", "0 2 1"), ("way 0 2", "left"),
            ("way 2 0", "right"), ("way 1 2", "above"), ("way 2 1", "below"), ("open 0", "right"), ("open 1", "bottom"),
            ("drag 2 left 5", "ok"), ("pane 0", "0,0,5,8"), ("close 0 right", "ok"), ("names", "1 2"), ("plan", "1 0"),
            ("open 2", "top"), ("undo", "ok"), ("back 1", "ok"), ("names", "0 1"), ("pane 1", "4,0,10,8")]
        self.assertEqual(answers(*[line for line, _ in expected]), [answer for _, answer in expected])

    def test_names_are_not_places(self):
        found = answers("desk 9 9", "split 0 left 3", "split 1 left 6", "close 0 right", "names", "pane 1", "pane 0",
                        "way 1 2", "way 0 1", "open 2", "falling", "plan", "split 1 above 5", "names", "rising", "plan",
                        "close 2 left", "open 3")
        self.assertEqual(found, ["ok", "ok", "ok", "ok", "1 2", "0,0,6,9", "InvalidPane", "left", "InvalidPane", "left",
                                 "1 2", "0 1", "ok", "1 2 3", "3 1 2", "1 0 2", "ok", "top"])

    def test_two_open_sides(self):
        self.assertEqual(answers("desk 9 1", "split 0 left 3", "split 1 left 6", "open 1")[-1], "left right")
        self.assertEqual(answers("desk 1 9", "split 0 above 3", "split 1 above 6", "open 1")[-1], "top bottom")

    def test_great_numbers(self):
        self.assertEqual(answers(f"desk {BIG} {BIG}", f"split 0 left {BIG - 1}", "pane 1", "drag 0 right 1", "pane 1"),
                         ["ok", "ok", f"{BIG - 1},0,{BIG},{BIG}", "ok", f"1,0,{BIG},{BIG}"])
        self.assertEqual(answers(f"desk {BIG + 1} 1", f"desk 1 {BIG + 1}"), ["?", "?"])


class ErrorsTest(unittest.TestCase):
    def test_names_of_errors(self):
        cases = [("split 3 left 1", "InvalidPane"), ("split -1 left 1", "InvalidPane"),
                 ("split 0 right 1", "InvalidWord"), ("split 0 ? 1", "InvalidWord"), ("split 0 7 1", "InvalidWord"),
                 ("split 0 left 0", "InvalidNumber"), ("split 0 left 4", "InvalidNumber"),
                 ("split 0 left -3", "InvalidNumber"), ("close 3 left", "InvalidPane"),
                 ("close 0 above", "InvalidWord"), ("close 0 left", "NotAlone"), ("close 1 left", "NotAlone"),
                 ("drag 3 left 1", "InvalidPane"), ("drag 0 up 1", "InvalidWord"), ("drag 0 left 1", "InvalidWord"),
                 ("drag 0 right 9", "InvalidNumber"), ("drag 0 right 0", "InvalidNumber"), ("back 3", "InvalidIndex"),
                 ("back -1", "InvalidIndex"), ("pane 3", "InvalidPane"), ("pane -1", "InvalidPane"),
                 ("way 0 0", "InvalidPane"), ("way 0 3", "InvalidPane"), ("way 3 0", "InvalidPane"),
                 ("open 3", "InvalidPane"), ("desk 0 1", "InvalidNumber"), ("desk 1 0", "InvalidNumber"),
                 ("desk -1 -1", "InvalidNumber")]
        asked = ["names", "pane 0", "pane 1", "pane 2", "plan"]
        for line, error in cases:
            self.assertEqual(answers_on([line] + asked), [error] + answers_on(asked), line)
            # It is no call that can be undone.
            self.assertEqual(answers_on([line, "undo", "undo", "undo"]), [error, "ok", "ok", "NothingToUndo"], line)

    def test_meeting(self):
        found = answers("desk 9 9", "split 0 above 4", "split 0 left 4", "split 1 left 4", "split 1 left 3",
                        "drag 1 right 4", "pane 1", "drag 1 right 5", "pane 1")
        self.assertEqual(found, ["ok", "ok", "ok", "Meeting", "ok", "Meeting", "0,4,3,9", "ok", "0,4,5,9"])

    def test_sixty_panes(self):
        lines = ["desk 60 2"] + [f"split {place} left {place + 1}" for place in range(59)]
        found = answers(*lines, "split 0 left 1", "split 0 right 1", "split 0 above 1", "close 59 left",
                        "split 0 above 1", "names")
        self.assertEqual(found, ["ok"] * 60 + ["InvalidPane"] * 3 + ["ok", "ok", " ".join(map(str, [*range(59), 60]))])

    def test_nothing_to_undo(self):
        self.assertEqual(answers("desk 2 2", "undo", "back 0", "back 1", "split 0 left 1", "back 1", "back 0", "names"),
                         ["ok", "NothingToUndo", "ok", "InvalidIndex", "ok", "ok", "ok", "0"])


class DeskLinesTest(unittest.TestCase):
    def test_before_the_first_desk(self):
        lines = ["split 0 left 1", "close 0 left", "drag 0 left 1", "undo", "back 0", "names", "pane 0", "falling",
                 "rising", "plan", "way 0 1", "open 0", "", "x"]
        for line in lines:
            self.assertEqual(session(line), "?", line)
            self.assertEqual(answers(line, "desk 0 4", line, "desk x 4", line, "desk 4 4", "names"),
                             ["?", "InvalidNumber", "?", "?", "?", "ok", "0"], line)

    def test_a_new_desk(self):
        self.assertEqual(answers("desk 9 9", "split 0 left 4", "desk 3 2", "names", "pane 0", "undo"),
                         ["ok", "ok", "ok", "0", "0,0,3,2", "NothingToUndo"])
        self.assertEqual(answers("desk 9 9", "split 0 left 4", "desk 3 0", "names", "undo"),
                         ["ok", "ok", "InvalidNumber", "0 1", "ok"])
        self.assertEqual(answers("desk 9 9", "split 0 left 4", "desk 3", "names"), ["ok", "ok", "?", "0 1"])


class OtherLinesTest(unittest.TestCase):
    def test_empty_lines(self):
        self.assertEqual(session(""), "?")
        self.assertEqual(session("\n"), "?\n?")
        self.assertEqual(session("\n\n\n"), "?\n?\n?\n?")
        self.assertEqual(session("desk 1 1\n"), "ok\n?")
        self.assertEqual(session("\ndesk 1 1\n\nnames"), "?\nok\n?\n0")
        self.assertEqual(session("\n" * 99), "\n".join("?" * 100))

    def test_blanks(self):
        for line in (" ", "  ", "names ", " names", "pane  0", "pane 0 ", " pane 0", "split 0 left  2", "split 0  2",
                     "close 0 ", "close  right", "drag 0  2", "undo ", " undo", "desk 2  2", "desk 2 2 ", " desk 2 2",
                     "desk  2", "split  left 2", "back ", "open ", "way 0 "):
            self.assertEqual(answers_on([line, "names", "pane 0"]), ["?", "0 1 2", "0,0,4,9"], line)
            self.assertEqual(answers(line, "names"), ["?", "?"], line)

    def test_words_that_lack_or_are_too_many(self):
        whole = ["desk 3 3", "split 0 left 2", "close 2 top", "drag 0 right 3", "undo", "back 0", "names", "pane 0",
                 "falling", "rising", "plan", "way 0 1", "open 0"]
        for line in whole:
            self.assertNotEqual(answers_on([line]), ["?"], line)
            words = line.split(" ")
            others = [" ".join(words[:many]) for many in range(1, len(words))]
            for other in others + [line + " 0", line + " left", line + " x x"]:
                self.assertEqual(answers_on([other, "names", "pane 0"]), ["?", "0 1 2", "0,0,4,9"], other)

    def test_words_that_are_no_numbers(self):
        for word in NO_NUMBERS:
            lines = [f"desk {word} 3", f"desk 3 {word}", f"split {word} left 2", f"split 0 left {word}",
                     f"close {word} right", f"drag {word} right 3", f"drag 0 right {word}", f"back {word}",
                     f"pane {word}", f"way {word} 1", f"way 0 {word}", f"open {word}", f"split 0 up {word}",
                     f"split 99 left {word}"]
            for line in lines:
                self.assertEqual(answers_on([line, "names", "pane 0"]), ["?", "0 1 2", "0,0,4,9"], line)

    def test_unknown_commands(self):
        for line in ("x", "Names", "NAMES", "name", "mark", "twin", "undo_to 0", "len", "width", "height", "panes",
                     "quit", "help", "0", "-", "?", "names,", "desk", "desks 1 1", "open", "names\tx",
                     "names;names", "split,0,left,2"):
            self.assertEqual(answers_on([line, "names"]), ["?", "0 1 2"], line)
            self.assertEqual(answers(line), ["?"], line)


class ManyLinesTest(unittest.TestCase):
    def check_session(self, seed):
        mixer = random.Random(seed)
        width, height = mixer.choice(((9, 9), (30, 20), (BIG, 7)))
        desk = Desk(width, height)
        lines, expected = [f"desk {width} {height}"], ["ok"]
        while len(lines) < 80:
            name = mixer.choice(desk.names + [-1, 9])
            kind, side = mixer.choice(("left", "above")), mixer.choice(("left", "top", "right", "bottom"))
            other, place = mixer.choice(desk.names), mixer.randint(0, 30)
            calls = {f"split {name} {kind} {place}": lambda: desk.split(name, kind, place),
                     f"close {name} {side}": lambda: desk.close(name, side),
                     f"drag {name} {side} {place}": lambda: desk.drag(name, side, place),
                     f"split {other} {kind} {place}": lambda: desk.split(other, kind, place),
                     f"way {name} {other}": lambda: way_of(desk.panes, *map([*desk.names, -1, 9].index, (name, other))),
                     "undo": desk.undo, f"back {place}": lambda: desk.undo_to(place)}
            line = mixer.choice(list(calls))
            try:
                answer = calls[line]() or "ok"
            except PaneError as error:
                answer = error.__class__.__name__
            lines.append(line)
            expected.append(answer)
        lines += tell_lines(desk)
        expected += told(desk)
        self.assertEqual(answers(*lines[:100]), expected[:100], repr(lines))

    def test_sessions(self):
        for seed in range(40):
            self.check_session(seed)


if __name__ == "__main__":
    unittest.main()
