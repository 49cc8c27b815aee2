"""What a plan is: point 4. A plan is refused, or done, by run_plan."""

import unittest

from windowdog.errors import BadPlan, DogError
from windowdog.plans import run_plan

GREATEST = 10 ** 30 - 1
PAT = ("pat",)


def loop(plan):
    return ("loop", 1, 1, plan)


def row(*plans):
    return ("row", plans)


def either(*plans):
    return ("either", plans)


def nested(many):
    """So many plans within one another."""
    plan = PAT
    for turn in range(many - 1):
        plan = row(plan)
    return plan


class Case(unittest.TestCase):
    def assert_bad(self, plan):
        for delays in ([], [0], [1, 1, 1], [GREATEST]):
            with self.subTest(plan=plan, delays=delays), self.assertRaises(BadPlan):
                run_plan(plan, delays)

    def assert_good(self, plan, delays, told):
        with self.subTest(plan=plan, delays=delays):
            self.assertEqual(run_plan(plan, delays), told)


class Sorts(Case):
    def test_pat(self):
        self.assert_good(PAT, [], ([0], 0))

    def test_work(self):
        self.assert_good(("work", 2, 5), [3], ([], 3))

    def test_row(self):
        self.assert_good(row(("work", 2, 5), PAT, ("work", 1, 1), PAT), [4, 1], ([4, 5], 5))

    def test_either(self):
        plan = either(row(PAT, ("work", 1, 2)), ("work", 3, 4), PAT)
        self.assert_good(plan, [0, 2], ([0], 2))
        self.assert_good(plan, [1, 3], ([], 3))
        self.assert_good(plan, [2], ([0], 0))

    def test_loop(self):
        plan = ("loop", 0, 3, row(("work", 1, 9), PAT))
        self.assert_good(plan, [0], ([], 0))
        self.assert_good(plan, [1, 7], ([7], 7))
        self.assert_good(plan, [3, 7, 2, 1], ([7, 9, 10], 10))

    def test_each_sort_within_each_other_one(self):
        self.assert_good(row(row(PAT)), [], ([0], 0))
        self.assert_good(row(either(PAT)), [0], ([0], 0))
        self.assert_good(row(loop(PAT)), [1], ([0], 0))
        self.assert_good(either(row(PAT)), [0], ([0], 0))
        self.assert_good(either(either(PAT)), [0, 0], ([0], 0))
        self.assert_good(either(loop(PAT)), [0, 1], ([0], 0))
        self.assert_good(loop(row(PAT)), [1], ([0], 0))
        self.assert_good(loop(either(PAT)), [1, 0], ([0], 0))
        self.assert_good(loop(loop(PAT)), [1, 1], ([0], 0))
        self.assert_good(loop(PAT), [1], ([0], 0))
        self.assert_good(loop(("work", 3, 3)), [1, 3], ([], 3))
        self.assert_good(either(("work", 3, 3)), [0, 3], ([], 3))

    def test_all_five_sorts_in_one(self):
        part = either(row(("work", 0, 4), PAT), ("work", 5, 6))
        plan = row(PAT, ("loop", 0, 2, part), PAT)
        self.assert_good(plan, [2, 0, 3, 1, 6], ([0, 3, 9], 9))
        self.assert_good(plan, [0], ([0, 0], 0))


class Bounds(Case):
    def test_work_from_nought_to_a_thousand(self):
        self.assert_good(("work", 0, 0), [0], ([], 0))
        self.assert_good(("work", 0, 1000), [1000], ([], 1000))
        self.assert_good(("work", 1000, 1000), [1000], ([], 1000))
        self.assert_good(("work", 999, 1000), [999], ([], 999))

    def test_work_beyond(self):
        self.assert_bad(("work", 0, 1001))
        self.assert_bad(("work", 1001, 1001))
        self.assert_bad(("work", -1, 1000))
        self.assert_bad(("work", -1, -1))
        self.assert_bad(("work", 0, -1))
        self.assert_bad(("work", 0, GREATEST))
        self.assert_bad(("work", -GREATEST, 3))

    def test_work_crosswise(self):
        self.assert_bad(("work", 1, 0))
        self.assert_bad(("work", 1000, 999))

    def test_loop_from_nought_to_nine(self):
        self.assert_good(("loop", 0, 0, PAT), [0], ([], 0))
        self.assert_good(("loop", 0, 9, PAT), [9], ([0] * 9, 0))
        self.assert_good(("loop", 9, 9, PAT), [9], ([0] * 9, 0))
        self.assert_good(("loop", 8, 9, PAT), [8], ([0] * 8, 0))

    def test_loop_beyond(self):
        self.assert_bad(("loop", 0, 10, PAT))
        self.assert_bad(("loop", 10, 10, PAT))
        self.assert_bad(("loop", -1, 9, PAT))
        self.assert_bad(("loop", -1, -1, PAT))
        self.assert_bad(("loop", 0, -1, PAT))
        self.assert_bad(("loop", 0, GREATEST, PAT))
        self.assert_bad(("loop", -GREATEST, 3, PAT))

    def test_loop_crosswise(self):
        self.assert_bad(("loop", 1, 0, PAT))
        self.assert_bad(("loop", 9, 8, PAT))

    def test_bounds_that_are_no_numbers(self):
        for wrong in ("", "1", "pat", (), (1,), PAT, True, False):
            self.assert_bad(("work", wrong, 3))
            self.assert_bad(("work", 0, wrong))
            self.assert_bad(("loop", wrong, 3, PAT))
            self.assert_bad(("loop", 0, wrong, PAT))


class Many(Case):
    def test_one_to_twenty_plans_in_a_row(self):
        self.assert_good(row(PAT), [], ([0], 0))
        self.assert_good(("row", (PAT,) * 20), [], ([0] * 20, 0))

    def test_one_to_twenty_plans_in_an_either(self):
        self.assert_good(either(PAT), [0], ([0], 0))
        self.assert_good(("either", (PAT,) * 19 + (("work", 5, 5),)), [19, 5], ([], 5))

    def test_no_plans(self):
        self.assert_bad(row())
        self.assert_bad(either())

    def test_twenty_one_plans(self):
        self.assert_bad(("row", (PAT,) * 21))
        self.assert_bad(("either", (PAT,) * 21))

    def test_thirty_tuples_that_are_plans(self):
        self.assert_good(row(("row", (PAT,) * 20), ("row", (PAT,) * 7)), [], ([0] * 27, 0))
        self.assert_good(row(("row", (PAT,) * 9), ("either", (PAT,) * 18)), [17], ([0] * 10, 0))
        self.assert_good(row(("row", (PAT,) * 18), loop(("row", (PAT,) * 8))), [1], ([0] * 26, 0))

    def test_thirty_one_tuples_that_are_plans(self):
        self.assert_bad(row(("row", (PAT,) * 20), ("row", (PAT,) * 8)))
        self.assert_bad(row(("row", (PAT,) * 9), ("either", (PAT,) * 19)))
        self.assert_bad(row(("row", (PAT,) * 18), loop(("row", (PAT,) * 9))))

    def test_works_count_too(self):
        works = (("work", 1, 1),) * 14
        self.assert_good(row(("row", works), ("row", works[:13])), [1] * 27, ([], 27))
        self.assert_bad(row(("row", works), ("row", works)))


class Within(Case):
    def test_six_within_one_another(self):
        self.assert_good(nested(6), [], ([0], 0))
        self.assert_good(row(PAT, nested(5), PAT), [], ([0, 0, 0], 0))
        self.assert_good(either(either(either(either(either(PAT))))), [0] * 5, ([0], 0))
        self.assert_good(loop(row(loop(either(row(PAT))))), [1, 1, 0], ([0], 0))

    def test_seven_within_one_another(self):
        self.assert_bad(nested(7))
        self.assert_bad(row(PAT, nested(6), PAT))
        self.assert_bad(either(PAT, nested(6)))
        self.assert_bad(loop(nested(6)))
        self.assert_bad(either(either(either(either(either(either(PAT)))))))
        self.assert_bad(loop(row(loop(either(row(row(PAT)))))))

    def test_two_loops_within_one_another(self):
        self.assert_good(("loop", 2, 2, ("loop", 3, 3, PAT)), [2, 3, 3], ([0] * 6, 0))
        self.assert_good(loop(row(either(loop(PAT)))), [1, 0, 1], ([0], 0))

    def test_three_loops_within_one_another(self):
        self.assert_bad(loop(loop(loop(PAT))))
        self.assert_bad(loop(row(loop(row(loop(PAT))))))
        self.assert_bad(loop(loop(either(PAT, loop(PAT)))))
        self.assert_bad(("loop", 0, 0, ("loop", 0, 0, ("loop", 0, 0, PAT))))

    def test_many_loops_beside_one_another(self):
        self.assert_good(("row", (loop(PAT),) * 14), [1] * 14, ([0] * 14, 0))
        self.assert_good(loop(row(loop(PAT), loop(PAT), loop(PAT))), [1] * 4, ([0] * 3, 0))

    def test_far_too_many(self):
        plan = PAT
        for turn in range(100):
            plan = ("row", (plan,) * 20)
        self.assert_far_too_many(plan)
        plan = PAT
        for turn in range(5000):
            plan = row(plan)
        self.assert_far_too_many(plan)

    def assert_far_too_many(self, plan):
        # Not by assert_bad, as a plan like this is too great to be shown.
        with self.assertRaises(BadPlan):
            run_plan(plan, [])


class Forms(Case):
    def test_the_empty_tuple(self):
        self.assert_bad(())
        self.assert_bad(((),))
        self.assert_bad(row(()))

    def test_an_unknown_word(self):
        for word in ("", "Pat", "PAT", " pat", "wait", "rows", "eithers", "looped"):
            self.assert_bad((word,))
            self.assert_bad((word, 1, 2))
            self.assert_bad((word, (PAT,)))
            self.assert_bad((word, 1, 2, PAT))

    def test_no_text_as_word(self):
        for word in (0, 1, -1, GREATEST, (), PAT, (PAT,)):
            self.assert_bad((word,))
            self.assert_bad((word, 1, 2))
            self.assert_bad((word, (PAT,)))
            self.assert_bad((word, 1, 2, PAT))

    def test_a_part_more(self):
        self.assert_bad(("pat", "pat"))
        self.assert_bad(("pat", 0))
        self.assert_bad(("work", 1, 2, 3))
        self.assert_bad(("row", (PAT,), (PAT,)))
        self.assert_bad(("row", PAT, PAT))
        self.assert_bad(("either", (PAT,), 0))
        self.assert_bad(("loop", 1, 2, PAT, PAT))

    def test_a_part_fewer(self):
        self.assert_bad(("work", 1))
        self.assert_bad(("work",))
        self.assert_bad(("row",))
        self.assert_bad(("either",))
        self.assert_bad(("loop", 1, 2))
        self.assert_bad(("loop", 1, PAT))
        self.assert_bad(("loop",))

    def test_no_tuple_in_the_place_of_a_plan(self):
        for wrong in ("pat", "", 0, 5, GREATEST, True, False):
            self.assert_bad(wrong)
            self.assert_bad(row(wrong))
            self.assert_bad(row(PAT, wrong, PAT))
            self.assert_bad(either(wrong))
            self.assert_bad(either(PAT, wrong))
            self.assert_bad(loop(wrong))

    def test_no_tuple_in_the_place_of_plans(self):
        for wrong in ("pat", "", "p", 0, 1, True):
            self.assert_bad(("row", wrong))
            self.assert_bad(("either", wrong))

    def test_a_plan_in_the_place_of_plans(self):
        self.assert_bad(("row", PAT))
        self.assert_bad(("either", PAT))
        self.assert_bad(("row", ("work", 1, 2)))

    def test_plans_in_the_place_of_a_plan(self):
        self.assert_bad((PAT,))
        self.assert_bad((PAT, PAT))
        self.assert_bad(loop((PAT,)))
        self.assert_bad(row((PAT,)))

    def test_wrong_where_it_is_never_done(self):
        wrong = ("work", 2, 1)
        self.assert_bad(either(PAT, wrong))
        self.assert_bad(("loop", 0, 0, wrong))
        self.assert_bad(("loop", 0, 0, row(PAT, either(PAT, wrong))))

    def test_wrong_at_each_depth(self):
        plan = ("wait",)
        for depth in range(6):
            self.assert_bad(plan)
            plan = row(PAT, plan)

    def test_the_refusal_is_a_dog_error(self):
        with self.assertRaises(DogError):
            run_plan((), [])


if __name__ == "__main__":
    unittest.main()
