"""How a plan is done with its delays: point 5."""

import itertools
import unittest

from windowdog.errors import BadDelays, BadPlan, DogError
from windowdog.plans import run_plan

GREATEST = 10 ** 30 - 1
PAT = ("pat",)
WORK = ("work", 2, 4)
EITHER = ("either", (PAT, ("work", 1, 1), ("row", (PAT, PAT))))
LOOP = ("loop", 1, 3, ("row", (PAT, ("work", 0, 5))))


class Case(unittest.TestCase):
    def assert_refused(self, plan, delays, at):
        with self.subTest(plan=plan, delays=delays):
            with self.assertRaises(BadDelays) as caught:
                run_plan(plan, delays)
            self.assertEqual(caught.exception.at, at)


class Told(Case):
    def test_pats_stand_at_the_moments_at_which_they_are_done(self):
        plan = ("row", (PAT, WORK, PAT, PAT, WORK, PAT, WORK))
        self.assertEqual(run_plan(plan, [2, 3, 4]), ([0, 2, 2, 5], 9))

    def test_nothing_takes_time_but_works(self):
        plan = ("row", (EITHER, ("loop", 0, 9, PAT), EITHER))
        self.assertEqual(run_plan(plan, [2, 4, 0]), ([0] * 7, 0))

    def test_the_number_of_an_either_is_used_ahead_of_what_is_done(self):
        plan = ("either", (("work", 0, 1), ("work", 5, 6)))
        self.assertEqual(run_plan(plan, [1, 6]), ([], 6))
        self.assert_refused(plan, [6, 1], 0)

    def test_the_number_of_a_loop_is_used_ahead_of_what_is_done(self):
        plan = ("loop", 2, 3, ("work", 5, 9))
        self.assertEqual(run_plan(plan, [2, 5, 9]), ([], 14))
        self.assert_refused(plan, [5, 9, 2], 0)

    def test_the_number_of_an_inner_loop_is_used_each_time(self):
        plan = ("loop", 0, 2, ("row", (("loop", 0, 2, WORK), PAT)))
        self.assertEqual(run_plan(plan, [2, 1, 4, 2, 2, 3]), ([4, 9], 9))
        self.assertEqual(run_plan(plan, [2, 0, 0]), ([0, 0], 0))

    def test_numbers_are_used_where_there_is_no_choice_too(self):
        plan = ("loop", 1, 1, ("either", (("work", 3, 3),)))
        self.assertEqual(run_plan(plan, [1, 0, 3]), ([], 3))
        self.assert_refused(plan, [], 0)
        self.assert_refused(plan, [3], 0)

    def test_a_plan_without_delays(self):
        self.assertEqual(run_plan(("row", (PAT, PAT)), []), ([0, 0], 0))

    def test_the_longest_that_a_plan_may_take(self):
        plan = ("loop", 0, 9, ("loop", 0, 9, ("work", 0, 1000)))
        delays = [9] + ([9] + [1000] * 9) * 9
        self.assertEqual(run_plan(plan, delays), ([], 81000))

    def test_all_delays_of_a_plan(self):
        plan = ("row", (("loop", 0, 2, ("either", (PAT, ("work", 1, 2)))), PAT))
        taken = {}
        for many in range(7):
            for delays in itertools.product(range(-1, 4), repeat=many):
                try:
                    taken[delays] = run_plan(plan, list(delays))
                except BadDelays:
                    pass
        self.assertEqual(taken, {
            (0,): ([0], 0),
            (1, 0): ([0, 0], 0),
            (1, 1, 1): ([1], 1),
            (1, 1, 2): ([2], 2),
            (2, 0, 0): ([0, 0, 0], 0),
            (2, 0, 1, 1): ([0, 1], 1),
            (2, 0, 1, 2): ([0, 2], 2),
            (2, 1, 1, 0): ([1, 1], 1),
            (2, 1, 2, 0): ([2, 2], 2),
            (2, 1, 1, 1, 1): ([2], 2),
            (2, 1, 1, 1, 2): ([3], 3),
            (2, 1, 2, 1, 1): ([3], 3),
            (2, 1, 2, 1, 2): ([4], 4),
        })


class NumbersThatCannotBe(Case):
    def test_work(self):
        self.assertEqual(run_plan(WORK, [2]), ([], 2))
        self.assertEqual(run_plan(WORK, [4]), ([], 4))
        self.assert_refused(WORK, [1], 0)
        self.assert_refused(WORK, [5], 0)
        self.assert_refused(("row", (WORK, PAT, WORK)), [2, 5], 1)

    def test_either(self):
        self.assertEqual(run_plan(EITHER, [0]), ([0], 0))
        self.assertEqual(run_plan(EITHER, [2]), ([0, 0], 0))
        self.assert_refused(EITHER, [3], 0)
        self.assert_refused(EITHER, [-1], 0)
        self.assert_refused(("row", (WORK, EITHER)), [2, 3], 1)

    def test_loop(self):
        self.assertEqual(run_plan(LOOP, [1, 0]), ([0], 0))
        self.assertEqual(run_plan(LOOP, [3, 5, 5, 5]), ([0, 5, 10], 15))
        self.assert_refused(LOOP, [0], 0)
        self.assert_refused(LOOP, [4], 0)
        self.assert_refused(LOOP, [2, 1, 6], 2)
        self.assert_refused(("row", (WORK, LOOP)), [2, 4, 0, 0, 0, 0], 1)

    def test_below_nought(self):
        self.assert_refused(("work", 0, 5), [-1], 0)
        self.assert_refused(("loop", 0, 5, PAT), [-1], 0)
        self.assert_refused(("either", (PAT, PAT)), [-2], 0)
        self.assert_refused(("either", (PAT, PAT)), [-GREATEST], 0)

    def test_thirty_figures(self):
        for plan in (("work", 0, 1000), ("either", (PAT,) * 20), ("loop", 0, 9, PAT)):
            self.assert_refused(plan, [GREATEST], 0)
            self.assert_refused(plan, [-GREATEST], 0)
            self.assert_refused(("row", (WORK, plan)), [2, GREATEST], 1)

    def test_truths_are_no_numbers(self):
        self.assert_refused(("work", 0, 5), [True], 0)
        self.assert_refused(("either", (PAT, PAT)), [False], 0)
        self.assert_refused(("loop", 0, 5, PAT), [True], 0)

    def test_the_first_one_is_told(self):
        self.assert_refused(("row", (WORK, WORK, WORK)), [2, 9, 9], 1)
        self.assert_refused(("row", (WORK, WORK, WORK)), [9, 2, 9], 0)

    def test_ahead_of_too_few(self):
        self.assert_refused(("row", (WORK, WORK, WORK)), [2, 9], 1)
        self.assert_refused(LOOP, [4], 0)
        self.assert_refused(LOOP, [3, 6], 1)

    def test_ahead_of_those_not_used(self):
        self.assert_refused(WORK, [9, 2, 2], 0)
        self.assert_refused(("row", (WORK, WORK)), [2, 9, 2, 2], 1)


class TooFew(Case):
    def test_work(self):
        self.assert_refused(WORK, [], 0)
        self.assert_refused(("row", (WORK, PAT, WORK)), [2], 1)

    def test_either(self):
        self.assert_refused(EITHER, [], 0)
        self.assert_refused(EITHER, [1], 1)
        self.assert_refused(("row", (WORK, EITHER)), [2], 1)

    def test_loop(self):
        self.assert_refused(LOOP, [], 0)
        self.assert_refused(LOOP, [3, 0], 2)
        self.assert_refused(LOOP, [3, 0, 5], 3)
        self.assert_refused(("row", (LOOP, LOOP)), [1, 0], 2)


class NotUsed(Case):
    def test_pat(self):
        self.assert_refused(PAT, [0], 0)
        self.assert_refused(("row", (PAT, PAT)), [1, 2], 0)

    def test_work(self):
        self.assert_refused(WORK, [2, 2], 1)
        self.assert_refused(WORK, [2, 2, 2, 2], 1)

    def test_either(self):
        self.assert_refused(EITHER, [0, 1], 1)
        self.assert_refused(EITHER, [1, 1, 0], 2)

    def test_loop(self):
        self.assert_refused(LOOP, [1, 0, 0], 2)
        self.assert_refused(LOOP, [2, 0, 0, 0, 0], 3)

    def test_a_loop_that_is_done_no_times(self):
        plan = ("loop", 0, 2, WORK)
        self.assertEqual(run_plan(plan, [0]), ([], 0))
        self.assert_refused(plan, [0, 2], 1)
        self.assertEqual(run_plan(("row", (plan, WORK)), [0, 4]), ([], 4))
        self.assert_refused(("row", (plan, WORK)), [0, 4, 2], 2)

    def test_whatever_they_are(self):
        self.assert_refused(WORK, [2, GREATEST], 1)
        self.assert_refused(WORK, [2, -GREATEST], 1)


class Order(Case):
    def test_bad_plan_goes_ahead_of_bad_delays(self):
        plans = (("work", 2, 1), (), ("row", (WORK, ("wait",))), ("either", (PAT, ("pat", 1))))
        for plan in plans:
            for delays in ([], [2], [9], [-1], [2, 2, 2, 2]):
                with self.subTest(plan=plan, delays=delays), self.assertRaises(BadPlan):
                    run_plan(plan, delays)

    def test_the_refusal_is_a_dog_error(self):
        with self.assertRaises(DogError):
            run_plan(WORK, [])


class Lists(Case):
    def test_the_answer_is_a_tuple_of_a_list_and_a_number(self):
        told = run_plan(LOOP, [1, 2])
        self.assertEqual([type(told)] + [type(part) for part in told], [tuple, list, int])

    def test_the_list_that_is_told_may_be_changed(self):
        for plan, delays in ((PAT, []), (LOOP, [2, 1, 1]), (WORK, [2]), (("loop", 0, 0, PAT), [0])):
            pats, end = run_plan(plan, delays)
            kept = list(pats)
            pats.append(99)
            pats[0] = 77
            self.assertEqual(run_plan(plan, delays), (kept, end))

    def test_the_list_that_is_handed_in_is_left_alone(self):
        for delays in ([2, 1, 1], [2, 1], [], [2, 1, 9], [2, 1, 1, 1]):
            kept = list(delays)
            try:
                run_plan(LOOP, delays)
            except BadDelays:
                pass
            self.assertEqual(delays, kept)

    def test_the_list_that_is_handed_in_is_not_kept(self):
        delays = [2, 1, 3]
        told = run_plan(LOOP, delays)
        delays[1] = 5
        self.assertEqual(told, ([0, 1], 4))
        self.assertEqual(run_plan(LOOP, delays), ([0, 5], 8))
        delays.pop()
        self.assert_refused(LOOP, delays, 2)


if __name__ == "__main__":
    unittest.main()
