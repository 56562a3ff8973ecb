"""Tests of paneplans.codes: promise 9, with 2 and 4 (R3)."""

import unittest

from desks import BIG, assert_interface, assert_rejects, assert_steady, grown
from paneplans import codes
from paneplans.codes import code_of, plan_of_code, pushed_plan, without_last
from paneplans.errors import InvalidCode, InvalidNumber, InvalidPlan
from paneplans.plans import borders_of, is_plan
from paneplans.relations import plan_of
from rows import (
    NO_CODES, P_CODE, P_PLAN, PLANS, WRONG_CODES, all_codes, all_plans, assert_rejects_plans, mixed_plan, nested)


def borders(plan):
    """Return how many panes are at the lower and at the right border."""
    _, _, right, lower = borders_of(plan)
    return len(lower), len(right)


class InterfaceTest(unittest.TestCase):
    def test_functions_and_arguments(self):
        assert_interface(self, codes, {
            "code_of": ["plan"], "plan_of_code": ["code"], "pushed_plan": ["plan", "number"],
            "without_last": ["plan"]})

    def test_equal_calls(self):
        for plan in PLANS:
            assert_steady(self, code_of, [plan], ["plan"])
            assert_steady(self, plan_of_code, [code_of(plan)], ["code"])
            if len(plan) < 60:
                assert_steady(self, pushed_plan, [plan, 1], ["plan", "number"])
            if len(plan) > 1:
                assert_steady(self, without_last, [plan], ["plan"])

    def test_wrong_things_stay_as_they_are(self):
        for thing in NO_CODES + [code for code, _ in WRONG_CODES]:
            before = repr(thing)
            assert_rejects(self, lambda: plan_of_code(code=thing), InvalidCode)
            self.assertEqual(repr(thing), before)


class CodesTest(unittest.TestCase):
    def test_codes(self):
        pairs = [([0], []), ([0, 1], [-1]), ([1, 0], [1]), (P_PLAN, P_CODE), (list(range(60)), [-1] * 59),
                 (list(range(59, -1, -1)), [1] * 59), ([2, 0, 1], [-1, 2]), ([0, 2, 1], [-1, 1]), ([1, 0, 2], [1, -2]),
                 ([1, 2, 0], [1, -1])]
        for plan, code in pairs:
            self.assertEqual(code_of(plan), code)
            self.assertEqual(plan_of_code(code), plan)

    def test_all_codes_of_up_to_five_numbers(self):
        for many in range(1, 7):
            found = [plan_of_code(code) for code in all_codes(many)]
            self.assertEqual(sorted(found), all_plans(many))
            for code, plan in zip(all_codes(many), found):
                self.assertEqual(plan, plan_of(grown(code)))
                self.assertEqual(code_of(plan), code)

    def test_long_codes(self):
        for plan in PLANS + [mixed_plan(60, seed) for seed in range(20)] + [nested(60, False), nested(59)]:
            code = code_of(plan)
            self.assertEqual(len(code), len(plan) - 1)
            self.assertEqual(plan_of(grown(code)), plan)
            self.assertEqual(plan_of_code(code), plan)
        self.assertEqual(len(plan_of_code([1, -1] * 29 + [1])), 60)
        self.assertIs(is_plan(plan_of_code([1, -2] * 29 + [1])), True)

    def test_wrong_plans(self):
        assert_rejects_plans(self, code_of)

    def test_objects_that_are_no_codes(self):
        for thing in NO_CODES:
            wrong = assert_rejects(self, lambda: plan_of_code(thing), InvalidCode, repr(thing))
            self.assertIsNone(wrong.place, repr(thing))

    def test_codes_that_are_wrong_at_a_place(self):
        for code, place in WRONG_CODES:
            wrong = assert_rejects(self, lambda: plan_of_code(code), InvalidCode, repr(code))
            self.assertEqual(wrong.place, place, repr(code))
            self.assertEqual(wrong.place.__class__, int)

    def test_the_last_numbers_that_can_stand(self):
        for plan in [plan for many in range(1, 6) for plan in all_plans(many)] + [mixed_plan(59, 1), mixed_plan(30, 5)]:
            code = code_of(plan)
            lower, right = borders(plan)
            for number in range(-right - 3, lower + 4):
                longer = code + [number]
                if number != 0 and -right <= number <= lower:
                    self.assertEqual(code_of(plan_of_code(longer)), longer)
                else:
                    for rest in ([], [0], [1, 1])[:1 if len(longer) > 57 else 3]:
                        wrong = assert_rejects(self, lambda: plan_of_code(longer + rest), InvalidCode)
                        self.assertEqual(wrong.place, len(code))


class PushedPlanTest(unittest.TestCase):
    def test_plans(self):
        self.assertEqual(pushed_plan([0], 1), [1, 0])
        self.assertEqual(pushed_plan([0], -1), [0, 1])
        self.assertEqual(pushed_plan([1, 2, 0, 3], 2), P_PLAN)
        self.assertEqual(pushed_plan(list(range(59)), -1), list(range(60)))
        self.assertEqual(pushed_plan(list(range(59)), 59), [59] + list(range(59)))

    def test_all_numbers(self):
        plans = [plan for many in range(1, 6) for plan in all_plans(many)] + [mixed_plan(59, 1), mixed_plan(40, 2)]
        for plan in plans:
            lower, right = borders(plan)
            for number in range(-right - 2, lower + 3):
                if number != 0 and -right <= number <= lower:
                    self.assertEqual(pushed_plan(plan, number), plan_of_code(code_of(plan) + [number]))
                    self.assertEqual(without_last(pushed_plan(plan, number)), (plan, number))
                else:
                    assert_rejects(self, lambda: pushed_plan(plan, number), InvalidNumber, repr((plan, number)))
            for number in (BIG, -BIG, 60, -60):
                assert_rejects(self, lambda: pushed_plan(plan, number), InvalidNumber)

    def test_sixty_panes(self):
        for plan in (mixed_plan(60, 3), list(range(60)), list(range(59, -1, -1))):
            for number in (1, -1, 0, 61, BIG):
                assert_rejects(self, lambda: pushed_plan(plan, number), InvalidPlan)

    def test_the_plan_is_checked_first(self):
        for number in (1, 0, BIG):
            assert_rejects_plans(self, lambda thing: pushed_plan(thing, number))


class WithoutLastTest(unittest.TestCase):
    def test_plans(self):
        self.assertEqual(without_last([1, 0]), ([0], 1))
        self.assertEqual(without_last([0, 1]), ([0], -1))
        self.assertEqual(without_last(P_PLAN), ([1, 2, 0, 3], 2))
        self.assertEqual(without_last(list(range(60))), (list(range(59)), -1))
        self.assertEqual([part.__class__ for part in (without_last([1, 0]), *without_last([1, 0]))], [tuple, list, int])

    def test_there_and_back(self):
        for plan in PLANS[1:] + [plan for many in range(2, 6) for plan in all_plans(many)]:
            rest, number = without_last(plan)
            self.assertIs(is_plan(rest), True)
            self.assertEqual(len(rest), len(plan) - 1)
            self.assertEqual(pushed_plan(rest, number), plan)
            self.assertEqual(code_of(rest) + [number], code_of(plan))

    def test_wrong_plans(self):
        assert_rejects(self, lambda: without_last([0]), InvalidPlan)
        assert_rejects_plans(self, without_last)


if __name__ == "__main__":
    unittest.main()
