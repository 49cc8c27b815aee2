"""Whether a plan that is done over and over is ever bitten: point 6."""

import math
import random
import unittest

from windowdog.errors import BadDelays, BadPlan, BadWindow, DogError
from windowdog.judging import judged
from windowdog.plans import run_plan
from windowdog.watch import bitten_at

GREATEST = 10 ** 30 - 1
PAT = ("pat",)


def work(least, most):
    return ("work", least, most)


def row(*plans):
    return ("row", plans)


def either(*plans):
    return ("either", plans)


def loop(least, most, plan):
    return ("loop", least, most, plan)


def all_delays(plan):
    """All delays of one round, each as a list, by the words of point 5."""
    word = plan[0]
    if word == "pat":
        return [[]]
    if word == "work":
        return [[delay] for delay in range(plan[1], plan[2] + 1)]
    if word == "row":
        return in_a_row(plan[1])
    if word == "either":
        return [[at] + rest for at, part in enumerate(plan[1]) for rest in all_delays(part)]
    return [[times] + rest for times in range(plan[1], plan[2] + 1)
            for rest in in_a_row([plan[3]] * times)]


def in_a_row(parts):
    rows = [[]]
    for part in parts:
        rows = [ahead + behind for ahead in rows for behind in all_delays(part)]
    return rows


def many_delays(plan):
    """How many delays of one round there are."""
    word = plan[0]
    if word == "pat":
        return 1
    if word == "work":
        return plan[2] - plan[1] + 1
    if word == "row":
        return math.prod([many_delays(part) for part in plan[1]])
    if word == "either":
        return sum([many_delays(part) for part in plan[1]])
    return sum([many_delays(plan[3]) ** times for times in range(plan[1], plan[2] + 1)])


def drawn_delays(plan, draw):
    """Delays of one round, drawn."""
    word = plan[0]
    if word == "pat":
        return []
    if word == "work":
        return [draw.choice((plan[1], plan[2], draw.randint(plan[1], plan[2])))]
    if word == "row":
        return [delay for part in plan[1] for delay in drawn_delays(part, draw)]
    if word == "either":
        at = draw.randrange(len(plan[1]))
        return [at] + drawn_delays(plan[1][at], draw)
    times = draw.randint(plan[1], plan[2])
    return [times] + [delay for turn in range(times) for delay in drawn_delays(plan[3], draw)]


def is_bitten(window, plan):
    """Whether any rounds are bitten: all rounds, from all moments behind the last pat.

    Once many moments lie between the last pat and a round, it is as if the
    watcher was patted so many moments ahead of the round.
    """
    rounds = sorted({(tuple(pats), end) for pats, end in
                     [run_plan(plan, delays) for delays in all_delays(plan)]})
    seen = {0}
    waiting = [0]
    while waiting:
        gap = waiting.pop()
        for pats, end in rounds:
            if bitten_at(window, [gap + pat for pat in pats], gap + end) is not None:
                return True
            later = end - pats[-1] if pats else gap + end
            if later not in seen:
                seen.add(later)
                waiting.append(later)
    return False


def drawn_plan(draw, deep, loops=2):
    """A small plan, drawn, with at most so many loops within one another."""
    sort = draw.randrange(8) if deep else draw.randrange(4)
    if sort < 2:
        return PAT
    if sort < 4:
        least = draw.randint(0, 4)
        return work(least, least + draw.choice((0, 0, 1, 2)))
    if sort < 6 or (sort == 7 and loops == 0):
        return row(*[drawn_plan(draw, deep - 1, loops) for turn in range(draw.randint(1, 4))])
    if sort == 6:
        return either(*[drawn_plan(draw, deep - 1, loops) for turn in range(draw.randint(1, 3))])
    least = draw.choice((0, 0, 1, 2))
    return loop(least, least + draw.choice((0, 1, 1)), drawn_plan(draw, deep - 1, loops - 1))


def many_plans(plan):
    """How many tuples of a plan are plans."""
    if plan[0] in ("row", "either"):
        return 1 + sum([many_plans(part) for part in plan[1]])
    return 1 + many_plans(plan[3]) if plan[0] == "loop" else 1


class Case(unittest.TestCase):
    def assert_delays(self, window, plan, told):
        """The delays are those of so many rounds, and the bite is the first of these."""
        word, rounds, delays, bite = told
        self.assertEqual([type(part) for part in told], [str, int, list, tuple])
        self.assertEqual(word, "bitten")
        self.assertGreaterEqual(rounds, 1)
        moments, now, rest = [], 0, delays
        for turn in range(rounds):
            try:
                run_plan(plan, rest)
                used = len(rest)
            except BadDelays as why:
                used = why.at
            pats, end = run_plan(plan, rest[:used])
            moments += [now + pat for pat in pats]
            now += end
            rest = rest[used:]
        self.assertEqual(rest, [])
        self.assertIsNotNone(bite)
        self.assertEqual(bitten_at(window, moments, now), bite)

    def assert_bitten(self, window, plan, bite=None):
        with self.subTest(window=window, plan=plan):
            told = judged(window, plan)
            self.assertEqual(told[0], "bitten")
            self.assert_delays(window, plan, told)
            if bite is not None:
                self.assertEqual(told[3], bite)
            return told

    def assert_safe(self, window, plan):
        with self.subTest(window=window, plan=plan):
            self.assertEqual(judged(window, plan), ("safe",))

    def assert_never_bitten(self, window, plan, draw, rounds):
        moments, now = [], 0
        for turn in range(rounds):
            pats, end = run_plan(plan, drawn_delays(plan, draw))
            moments += [now + pat for pat in pats]
            now += end
        self.assertIsNone(bitten_at(window, moments, now))


class WithoutAPat(Case):
    def test_works_alone(self):
        for high in (0, 1, 7, 1000):
            self.assert_bitten((0, high), work(1, 1), (high + 1, "late"))
            self.assert_bitten((high, high), work(0, 1), (high + 1, "late"))
            self.assert_bitten((0, high), work(1000, 1000), (high + 1, "late"))

    def test_so_many_rounds_as_it_takes(self):
        self.assertEqual(judged((0, 7), work(1, 1)), ("bitten", 8, [1] * 8, (8, "late")))
        self.assertEqual(judged((0, 6), work(3, 3)), ("bitten", 3, [3] * 3, (7, "late")))

    def test_an_either_and_a_loop(self):
        self.assert_bitten((0, 9), either(work(0, 0), work(0, 2)), (10, "late"))
        self.assert_bitten((0, 9), loop(0, 2, work(0, 1)), (10, "late"))


class RoundsThatTakeNoMoment(Case):
    def test_no_pat(self):
        for window in ((0, 0), (3, 5), (1000, 1000)):
            self.assert_safe(window, work(0, 0))
            self.assert_safe(window, loop(0, 0, work(5, 9)))
            self.assert_safe(window, loop(0, 0, PAT))
            self.assert_safe(window, row(work(0, 0), either(work(0, 0), loop(0, 9, work(0, 0)))))

    def test_pats_with_low_nought(self):
        self.assert_safe((0, 0), PAT)
        self.assert_safe((0, 9), row(PAT, work(0, 0), PAT))
        self.assert_safe((0, 0), loop(0, 9, loop(0, 9, PAT)))

    def test_pats_with_low_above_nought(self):
        self.assertEqual(judged((1, 9), PAT), ("bitten", 1, [], (0, "early")))
        self.assert_bitten((1, 1), row(work(0, 0), PAT), (0, "early"))
        self.assert_bitten((1, 9), loop(0, 1, PAT), (0, "early"))
        self.assert_bitten((1000, 1000), either(work(0, 0), PAT), (0, "early"))

    def test_some_rounds_that_take_none(self):
        self.assert_safe((0, 4), row(work(0, 2), PAT, work(0, 2)))
        self.assert_bitten((1, 4), row(work(0, 2), PAT, work(0, 2)), (0, "early"))


class PatsInSomeRoundsAlone(Case):
    def test_a_loop_that_may_be_done_no_times(self):
        self.assert_bitten((0, 5), row(loop(0, 1, PAT), work(1, 2)))
        self.assert_safe((0, 5), row(loop(1, 2, PAT), work(1, 2)))
        self.assert_safe((0, 0), row(loop(0, 1, PAT), work(0, 0)))

    def test_the_loop_has_the_work_too(self):
        self.assert_safe((2, 3), loop(0, 4, row(work(2, 3), PAT)))
        self.assert_bitten((2, 3), loop(0, 4, row(work(1, 3), PAT)), (1, "early"))
        self.assert_bitten((2, 3), row(loop(0, 4, row(work(2, 3), PAT)), work(1, 1)))

    def test_an_either_of_which_one_has_no_pat(self):
        self.assert_bitten((0, 5), row(work(1, 1), either(PAT, work(0, 0))), (6, "late"))
        self.assert_safe((0, 5), row(work(1, 1), either(PAT, row(work(2, 4), PAT))))


class WhereTheBiteComes(Case):
    def test_in_the_first_round(self):
        self.assertEqual(judged((3, 5), row(work(2, 2), PAT)), ("bitten", 1, [2], (2, "early")))
        self.assertEqual(judged((3, 5), row(work(6, 6), PAT)), ("bitten", 1, [6], (6, "late")))

    def test_only_in_a_later_round(self):
        plan = row(work(2, 2), PAT, work(3, 3))
        self.assertEqual(judged((2, 4), plan), ("bitten", 2, [2, 3, 2, 3], (7, "late")))
        self.assert_safe((2, 5), plan)

    def test_only_across_the_end_of_a_round(self):
        plan = row(work(2, 2), PAT, work(2, 2), PAT, work(0, 1), loop(0, 1, work(1, 1)))
        self.assert_safe((2, 4), plan)
        told = self.assert_bitten((2, 3), plan, (8, "late"))
        self.assertEqual(told[1], 2)

    def test_only_across_many_rounds(self):
        plan = row(loop(0, 1, PAT), work(1, 1))
        self.assertEqual(self.assert_bitten((0, 4), plan, (5, "late"))[1], 5)

    def test_early_by_a_short_work_alone(self):
        plan = row(either(work(1, 4), work(3, 3)), PAT)
        self.assert_safe((1, 4), plan)
        self.assert_bitten((2, 4), plan, (1, "early"))
        self.assert_bitten((1, 3), plan, (4, "late"))

    def test_early_behind_a_pat_of_the_same_round(self):
        plan = row(work(4, 4), PAT, loop(0, 1, row(work(2, 2), PAT)))
        self.assert_safe((2, 4), plan)
        self.assert_bitten((3, 4), plan, (6, "early"))

    def test_late_at_the_very_end_of_the_rounds(self):
        self.assertEqual(judged((0, 4), work(5, 5)), ("bitten", 1, [5], (5, "late")))
        self.assertEqual(judged((0, 5), work(5, 5)), ("bitten", 2, [5, 5], (6, "late")))
        self.assert_safe((0, 5), row(work(5, 5), PAT))
        self.assert_safe((0, 5), row(PAT, work(5, 5)))
        self.assert_bitten((0, 4), row(PAT, work(5, 5)), (5, "late"))

    def test_what_is_behind_the_bite_in_its_round_is_done(self):
        plan = row(work(9, 9), either(work(1, 2), PAT), loop(1, 2, row(work(3, 4), PAT)))
        told = self.assert_bitten((2, 5), plan, (6, "late"))
        self.assertEqual(told[1], 1)

    def test_both_bites_in_one_plan(self):
        self.assert_bitten((2, 5), row(work(1, 6), PAT))
        self.assert_safe((1, 6), row(work(1, 6), PAT))


class Bounds(Case):
    def test_a_high_of_nought(self):
        self.assert_safe((0, 0), row(work(0, 0), PAT))
        self.assert_bitten((0, 0), row(work(0, 1), PAT), (1, "late"))
        self.assert_bitten((0, 0), row(PAT, work(0, 1)), (1, "late"))
        self.assert_bitten((0, 0), work(1000, 1000), (1, "late"))

    def test_a_high_of_a_thousand(self):
        self.assert_safe((1000, 1000), row(work(1000, 1000), PAT))
        self.assert_bitten((1000, 1000), row(work(999, 1000), PAT), (999, "early"))
        self.assert_safe((0, 1000), row(work(0, 1000), PAT))
        self.assert_bitten((0, 1000), row(work(0, 1000), PAT, work(0, 1)))
        self.assert_bitten((1000, 1000), row(work(1000, 1000), PAT, work(0, 1)))
        self.assert_safe((1000, 1000), row(work(500, 500), work(500, 500), PAT))
        self.assert_bitten((0, 999), row(work(0, 1000), PAT), (1000, "late"))

    def test_wide_works(self):
        plan = row(work(250, 500), PAT, work(250, 300), work(0, 200))
        self.assert_safe((250, 1000), plan)
        self.assert_bitten((251, 1000), plan, (250, "early"))
        self.assert_bitten((250, 999), plan)

    def test_so_many_rounds_as_a_window_has_moments(self):
        told = self.assert_bitten((0, 1000), work(0, 1), (1001, "late"))
        self.assertEqual(told[1], 1001)

    def test_loops_within_one_another(self):
        part = loop(9, 9, loop(9, 9, work(1, 1)))
        self.assert_safe((0, 81), row(part, PAT))
        self.assert_bitten((0, 80), row(part, PAT), (81, "late"))
        part = loop(2, 9, loop(3, 9, work(1, 2)))
        self.assert_safe((6, 162), row(part, PAT))
        self.assert_bitten((7, 162), row(part, PAT), (6, "early"))
        self.assert_bitten((6, 161), row(part, PAT), (162, "late"))

    def test_the_greatest_plans(self):
        part = loop(0, 9, loop(0, 9, ("row", (work(0, 1000), PAT) * 10)))
        self.assert_bitten((0, 1000), row(part, work(0, 1000), PAT, work(0, 1)))
        self.assert_safe((0, 1000), row(part, work(0, 1000), PAT))
        part = loop(9, 9, loop(9, 9, ("row", (work(990, 1000), PAT) * 10)))
        self.assert_safe((990, 1000), row(part, work(995, 999), PAT))
        self.assert_bitten((991, 1000), row(part, work(995, 999), PAT), (990, "early"))
        self.assert_bitten((990, 1000), row(work(995, 999), PAT, part, work(0, 6)))

    def test_plans_of_thirty_tuples_six_within_one_another(self):
        pairs = ("row", (work(500, 1000), PAT) * 9 + (work(600, 900), PAT))
        plan = row(loop(0, 9, either(loop(0, 9, pairs))), work(500, 500), PAT, work(0, 0), work(0, 0))
        self.assertEqual(many_plans(plan), 29)
        plan = row(*plan[1], loop(0, 0, PAT))
        self.assertGreater(many_plans(plan), 30)
        self.assertRaises(BadPlan, judged, (500, 1000), plan)
        plan = row(*plan[1][:5], work(0, 0))
        self.assertEqual(many_plans(plan), 30)
        self.assert_safe((500, 1000), plan)
        self.assert_bitten((501, 1000), plan, (500, "early"))
        self.assert_bitten((500, 999), plan)
        self.assert_bitten((500, 1000), row(*plan[1][:5], work(0, 1)))
        self.assert_never_bitten((500, 1000), plan, random.Random(5), 30)

    def test_twenty_choices(self):
        works = tuple(work(least, least) for least in range(10, 30))
        self.assert_safe((10, 29), row(("either", works), PAT))
        self.assertEqual(judged((11, 29), row(("either", works), PAT))[2:], ([0, 10], (10, "early")))
        self.assertEqual(judged((10, 28), row(("either", works), PAT))[2:], ([19, 29], (29, "late")))

    def test_six_within_one_another(self):
        plan = row(loop(1, 2, either(loop(1, 2, row(work(2, 3), PAT)))))
        self.assert_safe((2, 3), plan)
        self.assert_bitten((3, 3), plan, (2, "early"))
        self.assert_bitten((2, 2), plan, (3, "late"))


class Throughout(Case):
    def test_small_plans_against_all_their_rounds(self):
        draw = random.Random(6)
        words = {"safe": 0, "early": 0, "late": 0}
        later = 0
        for turn in range(2500):
            plan = drawn_plan(draw, 3)
            if turn % 2:
                plan = row(plan, work(2, 2), PAT)
            if many_delays(plan) > 200 or many_plans(plan) > 30:
                continue
            high = draw.randint(0, 12)
            window = (draw.choice((0, draw.randint(0, high))), high)
            with self.subTest(window=window, plan=plan):
                told = judged(window, plan)
                self.assertEqual(told[0] == "bitten", is_bitten(window, plan))
                if told[0] == "bitten":
                    self.assert_delays(window, plan, told)
                    words[told[3][1]] += 1
                    later += told[1] > 1
                else:
                    self.assertEqual(told, ("safe",))
                    words["safe"] += 1
                    self.assert_never_bitten(window, plan, draw, 40)
        self.assertGreater(min(words.values()), 100)
        self.assertGreater(later, 100)

    def test_greater_plans_by_drawn_delays(self):
        draw = random.Random(66)
        for turn in range(150):
            low = draw.randint(0, 500)
            high = draw.randint(low + 1, 1000)
            parts = []
            for at in range(draw.randint(1, 4)):
                least = draw.randint(low, high)
                parts += [work(least, draw.randint(least, high)), PAT]
            plan = loop(0, 3, either(row(*parts), loop(0, 3, row(*parts[:2]))))
            self.assert_safe((low, high), plan)
            self.assert_never_bitten((low, high), plan, draw, 50)
            early = row(plan, work(low, high), PAT, loop(0, 1, row(work(max(0, low - 1), high), PAT)))
            if low:
                self.assert_bitten((low, high), early)
            else:
                self.assert_safe((low, high), early)
                self.assert_never_bitten((low, high), early, draw, 50)
            self.assert_bitten((low, high), row(plan, work(0, draw.randint(1, 1000))))
            self.assert_bitten((low, high), row(plan, work(low, high), PAT, work(1, 1)))


class Refusals(Case):
    def test_bad_windows(self):
        for window in ((1, 0), (-1, 5), (0, 1001), (0, GREATEST), (-GREATEST, 0), (6, 5)):
            with self.subTest(window=window), self.assertRaises(BadWindow):
                judged(window, PAT)

    def test_bad_plans(self):
        plans = (
            (), ("wait",), ("pat", 1), work(2, 1), work(0, 1001), work(-1, 5), work(0, GREATEST),
            row(), either(), ("row", (PAT,) * 21), ("either", (PAT,) * 21), ("row", PAT),
            loop(0, 10, PAT), loop(2, 1, PAT), loop(-1, 1, PAT), ("loop", 0, 1),
            loop(1, 1, loop(1, 1, loop(1, 1, PAT))), loop(0, 0, ()),
            row(row(row(row(row(row(PAT)))))), row(("row", (PAT,) * 15), ("row", (PAT,) * 13)),
            either(PAT, work(3, 2)),
        )
        for plan in plans:
            with self.subTest(plan=plan), self.assertRaises(BadPlan):
                judged((0, 5), plan)

    def test_bad_window_goes_ahead_of_bad_plan(self):
        for plan in ((), work(2, 1), row(), loop(0, 10, PAT)):
            with self.subTest(plan=plan), self.assertRaises(BadWindow):
                judged((6, 5), plan)

    def test_the_refusals_are_dog_errors(self):
        for window, plan in (((6, 5), PAT), ((5, 6), ())):
            with self.assertRaises(DogError):
                judged(window, plan)


class Lists(Case):
    def test_the_list_that_is_told_may_be_changed(self):
        plan = row(work(2, 2), PAT, either(work(1, 3), loop(0, 2, work(1, 1))))
        told = judged((2, 4), plan)
        kept = (told[0], told[1], list(told[2]), told[3])
        told[2].append(99)
        told[2][0] = 77
        self.assertEqual(judged((2, 4), plan), kept)
        self.assert_bitten((2, 4), plan)

    def test_asked_again_it_tells_the_same(self):
        for window in ((2, 4), (2, 9), (3, 9)):
            plan = row(work(2, 2), PAT, loop(0, 2, work(1, 2)))
            self.assertEqual(judged(window, plan), judged(window, plan))


if __name__ == "__main__":
    unittest.main()
