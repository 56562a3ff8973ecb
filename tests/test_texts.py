"""Tests of paneplans.texts: promise 17, with 2."""

import unittest

from desks import (
    BESIDE, BIG, LAYOUTS, ONE, P, SHIFTED, all_layouts, assert_interface, assert_rejects, assert_rejects_layouts,
    assert_steady, mixed, scaled, strip, tower)
from paneplans import texts
from paneplans.codes import code_of
from paneplans.errors import InvalidCode, InvalidText
from paneplans.texts import read_code, read_layout, read_plan, write_code, write_layout, write_plan
from rows import NO_CODES, P_CODE, P_PLAN, PLANS, WRONG_CODES, all_codes, all_plans, assert_rejects_plans

# Words that are no numbers.
NO_NUMBERS = ["", "-", "--1", "+1", "+0", "-0", "00", "01", "-01", "-00", "1.0", "1e0", "0x1", "1_0", "a", "one", "'1'",
              "1-", "1;", "0\n", "\n", "\n0", "0\n1", "1,", ",1", "#0", "(0)", "[0]", "\"0\"", "1" * 31, "-" + "1" * 31,
              "9" * 31, "0" * 30, "0" * 31, "1" + "0" * 30, "9" * 7000]


def assert_text(case, read, text, place):
    """Assert that a reader rejects a text at this place."""
    wrong = assert_rejects(case, lambda: read(text), InvalidText, repr(text))
    case.assertEqual((wrong.place, wrong.place.__class__), (place, int), repr(text))


class InterfaceTest(unittest.TestCase):
    def test_functions_and_arguments(self):
        assert_interface(self, texts, {
            "write_layout": ["layout"], "read_layout": ["text"], "write_plan": ["plan"], "read_plan": ["text"],
            "write_code": ["code"], "read_code": ["text"]})

    def test_equal_calls(self):
        for layout in LAYOUTS:
            assert_steady(self, write_layout, [layout], ["layout"])
            assert_steady(self, read_layout, [write_layout(layout)], ["text"])
        for plan in PLANS:
            assert_steady(self, write_plan, [plan], ["plan"])
            assert_steady(self, read_plan, [write_plan(plan)], ["text"])
            assert_steady(self, write_code, [code_of(plan)], ["code"])
            assert_steady(self, read_code, [write_code(code_of(plan))], ["text"])


class LayoutTextTest(unittest.TestCase):
    def test_texts(self):
        self.assertEqual(write_layout(P), "0,0,2,1 2,0,3,2 1,2,3,3 0,1,1,3 1,1,2,2")
        self.assertEqual(write_layout(ONE), "0,0,7,4")
        self.assertEqual(write_layout([(0, 0, BIG, 1)]), "0,0," + "9" * 30 + ",1")
        self.assertEqual(read_layout("0,0,2,1 2,0,3,2 1,2,3,3 0,1,1,3 1,1,2,2"), P)
        found = read_layout("0,0,7,4")
        self.assertEqual([found.__class__, found[0].__class__], [list, tuple])

    def test_there_and_back(self):
        for layout in LAYOUTS + all_layouts(3, 3, 9) + [scaled(P, 10 ** 29), mixed(60, 5)]:
            text = write_layout(layout)
            self.assertEqual(read_layout(text), layout)
            self.assertEqual(write_layout(read_layout(text)), text)

    def test_more_digits(self):
        # A layout with greater corners has a text, but this text is none that can be read.
        self.assertEqual(write_layout([(0, 0, 10 ** 30, 1)]), "0,0,1" + "0" * 30 + ",1")
        assert_text(self, read_layout, "0,0,1" + "0" * 30 + ",1", 0)

    def test_words_that_are_no_panes(self):
        for word in NO_NUMBERS:
            for place in range(4):
                parts = ["0", "0", "1", "1"]
                parts[place] = word
                assert_text(self, read_layout, ",".join(parts), 0)
                assert_text(self, read_layout, "0,0,1,1 " + ",".join(parts) + " 2,0,3,1", 1)
        for word in ("", "0", "0,0,1", "0,0,1,1,1", "0,0,1,1,", ",0,0,1,1", "0,,0,1,1", "0;0;1;1", "0,0,1,1\n",
                     "-1,0,1,1", "0,-1,1,1", "0,0,0,1", "0,0,1,0", "1,0,1,1", "0,2,1,1", "2,0,1,1", "(0,0,1,1)", "-",
                     ",,,"):
            for text, place in ((word, 0), (word + " 0,0,1,1", 0), ("0,0,1,1 " + word, 1), (word + " " + word, 0)):
                assert_text(self, read_layout, text, place)

    def test_blanks(self):
        for text, place in (("", 0), (" ", 0), (" 0,0,1,1", 0), ("0,0,1,1 ", 1), ("0,0,1,1  1,0,2,1", 1), ("  ", 0),
                            ("0,0,1,1 1,0,2,1 ", 2), ("0,0,1,1\n1,0,2,1", 0), ("0, 0,1,1", 0), ("0,0,1,1,1,0,2,1", 0)):
            assert_text(self, read_layout, text, place)

    def test_overlaps(self):
        for text, place in (("0,0,2,1 1,0,3,1", 1), ("0,0,1,1 0,0,1,1", 1), ("0,0,3,3 1,1,2,2", 1),
                            ("0,0,1,1 5,5,6,6 0,0,9,9", 2), ("0,0,2,1 1,0,3,1 x", 1), ("0,0,2,1 x 1,0,3,1", 1)):
            assert_text(self, read_layout, text, place)

    def test_panes_that_are_no_layout(self):
        # A gap, a desk that begins elsewhere, four panes at a point: all words can stand.
        for text, place in (("1,0,2,1", 1), ("0,0,1,1 2,0,3,1", 2), ("0,0,1,1 1,1,2,2", 2), ("0,0,1,2 1,0,2,1", 2),
                            ("0,0,1,1 1,0,2,1 0,1,1,2 1,1,2,2", 4), ("0,0,1,1 1,0,2,1 3,0,4,1", 3)):
            assert_text(self, read_layout, text, place)
        for layout in (P, SHIFTED, mixed(60, 3)):
            for pane in range(len(layout)):
                text = " ".join(",".join(map(str, corners)) for corners in layout[:pane] + layout[pane + 1:])
                assert_text(self, read_layout, text, len(layout) - 1)

    def test_sixty_one_panes(self):
        words = [",".join(map(str, corners)) for corners in strip(70)]
        self.assertEqual(read_layout(" ".join(words[:60])), strip(60))
        assert_text(self, read_layout, " ".join(words[:61]), 60)
        assert_text(self, read_layout, " ".join(words), 60)
        assert_text(self, read_layout, " ".join(words[:59] + ["x"] + words[60:]), 59)
        assert_text(self, read_layout, " ".join(words[:60] + ["x"]), 60)
        assert_text(self, read_layout, " ".join(words[:59] + words[:5]), 59)
        assert_text(self, read_layout, " ".join(["0,0,1,1"] * 900), 1)

    def test_wrong_layouts(self):
        assert_rejects_layouts(self, write_layout)


class PlanTextTest(unittest.TestCase):
    def test_texts(self):
        self.assertEqual(write_plan(P_PLAN), "1 4 2 0 3")
        self.assertEqual(write_plan([0]), "0")
        self.assertEqual(read_plan("1 4 2 0 3"), P_PLAN)
        self.assertEqual(write_plan(list(range(60)))[-5:], "58 59")

    def test_there_and_back(self):
        for plan in PLANS + [plan for many in range(1, 6) for plan in all_plans(many)]:
            text = write_plan(plan)
            self.assertEqual(read_plan(text), plan)
            self.assertEqual(write_plan(read_plan(text)), text)

    def test_words_that_cannot_stand(self):
        for word in NO_NUMBERS + ["-1", "-2", "3", "60", "9" * 30, "-" + "9" * 30]:
            for text, place in ((f"{word} 0 1", 0), (f"0 {word} 1", 1), (f"0 1 {word}", 2), (f"1 {word} {word}", 1)):
                assert_text(self, read_plan, text, place)
        for text, place in (("1", 0), ("-1", 0), ("0 0", 1), ("1 1", 1), ("0 2", 1), ("2 0", 0), ("1 0 1", 2),
                            ("0 1 3", 2), ("0 1 2 2 9", 3), ("0 9 0", 1), ("0,1", 0), ("0 -0", 1), ("-0 1", 0),
                            ("00", 0)):
            assert_text(self, read_plan, text, place)

    def test_blanks(self):
        for text, place in (("", 0), (" ", 0), (" 0", 0), ("0 ", 1), ("0  1", 1), ("1 0 ", 2), ("0\n1", 0),
                            ("0 1\n", 1), ("   ", 0)):
            assert_text(self, read_plan, text, place)

    def test_rows_that_are_no_plans(self):
        for text, place in (("1 3 0 2", 4), ("2 0 3 1", 4), ("1 4 0 3 2", 5), ("4 2 0 3 1 5", 6)):
            assert_text(self, read_plan, text, place)
        words = list(map(str, list(range(56)) + [57, 59, 56, 58]))
        assert_text(self, read_plan, " ".join(words), 60)

    def test_sixty_one_words(self):
        words = list(map(str, range(70)))
        self.assertEqual(read_plan(" ".join(words[:60])), list(range(60)))
        assert_text(self, read_plan, " ".join(words[:61]), 60)
        assert_text(self, read_plan, " ".join(words), 60)
        # Below the number of words there are seventy numbers.
        assert_text(self, read_plan, " ".join(words[::-1]), 60)
        assert_text(self, read_plan, " ".join(words[1:60] + ["70"] + words[61:] + ["0"]), 59)
        assert_text(self, read_plan, " ".join(words[:60] + ["x"]), 60)
        assert_text(self, read_plan, " ".join(words[:59] + ["0"] + words[60:]), 59)

    def test_wrong_plans(self):
        assert_rejects_plans(self, write_plan)


class CodeTextTest(unittest.TestCase):
    def test_texts(self):
        self.assertEqual(write_code(P_CODE), "1 -1 -2 2")
        self.assertEqual(write_code([]), "-")
        self.assertEqual(read_code("1 -1 -2 2"), P_CODE)
        self.assertEqual(read_code("-"), [])

    def test_there_and_back(self):
        for code in [code_of(plan) for plan in PLANS] + [code for many in range(1, 6) for code in all_codes(many)]:
            text = write_code(code)
            self.assertEqual(read_code(text), code)
            self.assertEqual(write_code(read_code(text)), text)

    def test_words_that_cannot_stand(self):
        for word in NO_NUMBERS + ["0", "9" * 30, "-" + "9" * 30, "4", "-4"]:
            if word != "-":
                assert_text(self, read_code, word, 0)
                assert_text(self, read_code, word + " 1", 0)
            assert_text(self, read_code, "1 " + word, 1)
            assert_text(self, read_code, "1 -1 " + word + " 1", 2)
        for code, place in WRONG_CODES:
            assert_text(self, read_code, " ".join(map(str, code)), place)

    def test_the_empty_code(self):
        for text, place in (("- 1", 1), ("- -", 1), ("- ", 1), ("-  1", 1), ("1 -", 1), ("--", 0), (" -", 0),
                            ("-\n", 0), ("- x", 1), ("", 0)):
            assert_text(self, read_code, text, place)

    def test_blanks(self):
        for text, place in ((" ", 0), (" 1", 0), ("1 ", 1), ("1  1", 1), ("1\n1", 0), ("1 1\n", 1), ("1,1", 0)):
            assert_text(self, read_code, text, place)

    def test_sixty_words(self):
        self.assertEqual(read_code(" ".join(["1"] * 59)), [1] * 59)
        assert_text(self, read_code, " ".join(["1"] * 60), 59)
        assert_text(self, read_code, " ".join(["1"] * 4000), 59)
        assert_text(self, read_code, " ".join(["1"] * 58 + ["0"] + ["1"] * 9), 58)
        assert_text(self, read_code, " ".join(["1"] * 59 + ["x"]), 59)
        assert_text(self, read_code, " ".join(["1"] * 59) + " ", 59)

    def test_wrong_codes(self):
        for thing in NO_CODES:
            wrong = assert_rejects(self, lambda: write_code(thing), InvalidCode, repr(thing))
            self.assertIsNone(wrong.place)
        for code, place in WRONG_CODES:
            self.assertEqual(assert_rejects(self, lambda: write_code(code), InvalidCode).place, place)


class NumbersTest(unittest.TestCase):
    def test_thirty_digits(self):
        for size in (BIG, 10 ** 29):
            self.assertEqual(read_layout(f"0,0,{size},1 0,1,{size},2"), [(0, 0, size, 1), (0, 1, size, 2)])
        assert_text(self, read_layout, f"0,0,{BIG + 1},1", 0)
        assert_text(self, read_layout, f"0,0,2,1 {BIG},0,{BIG + 1},1", 1)
        self.assertEqual(write_layout(BESIDE), "0,0,2,3 2,0,5,3")
        self.assertEqual(write_layout(tower(3)), "0,0,1,1 0,1,1,2 0,2,1,3")


if __name__ == "__main__":
    unittest.main()
