"""Whether a keeper's watcher is ever bitten while all tasks report: point 13."""

import itertools
import random
import unittest

from windowdog.errors import BadBeat, BadTasks, BadWindow, DogError, TooMuch
from windowdog.tasks import found_at, keeper_pats, steady

GREATEST = 10 ** 30 - 1
GOOD = [(1, 2), (2, 3)]
BAD_WINDOWS = ((1, 0), (6, 5), (-1, 5), (0, 1001), (-1, -1), (0, GREATEST), (-GREATEST, 0))
BAD_BEATS = (0, -1, 61, 62, GREATEST, -GREATEST)
BAD_TASKS = (
    [], [(1, 2)] * 5, [(1, 2)] * 40, [(0, 2)], [(0, 0)], [(3, 2)], [(1, 0)], [(-1, 2)], [(-2, -1)],
    [(1, 61)], [(61, 61)], [(1, GREATEST)], [(-GREATEST, 3)], [(GREATEST, GREATEST)],
    [(1, 2), (0, 2)], [(1, 2), (3, 2)], [(1, 2), (1, 2), (1, 2), (1, 61)],
)
TOO_MUCH = (
    ((0, 25), 1, [(1, 2)]), ((25, 25), 1, [(1, 2)]), ((0, 1000), 6, [(1, 2)]),
    ((0, 24), 7, [(1, 2)]), ((0, 24), 60, [(1, 2)]),
    ((0, 24), 6, [(1, 9)]), ((0, 24), 6, [(9, 9)]), ((0, 24), 6, [(1, 60)]), ((0, 24), 6, [(60, 60)]),
    ((0, 24), 6, [(1, 8), (1, 9)]), ((0, 24), 6, [(1, 9), (1, 8)]),
    ((0, 24), 6, [(1, 2)] * 3), ((0, 24), 6, [(1, 2)] * 4), ((2, 5), 1, [(1, 1)] * 3),
    ((0, 1000), 60, [(1, 60)] * 4),
)


def all_reports(task, until):
    """All reports of a task in its time, up to a moment."""
    least, most = task
    told = []
    waiting = [[]]
    while waiting:
        moments = waiting.pop()
        last = moments[-1] if moments else 0
        if last + most > until:
            told.append(moments)
        waiting += [moments + [last + gap] for gap in range(least, most + 1) if last + gap <= until]
    return told


def first_bite_by_reports(window, beat, tasks, until):
    """The moment of the first bite by any reports, up to a moment, or None."""
    bites = [found_at(window, beat, list(reports), until)
             for reports in itertools.product(*[all_reports(task, until) for task in tasks])]
    return min([bite[0] for bite in bites if bite is not None], default=None)


def step_on(window, beat, tasks, state):
    """All that may be a moment later, by the words of point 11; None for a bite.

    A state is the moment in its beat, how long ago the last pat was, and for each
    task how long ago it reported and whether it did so behind the last pat.
    """
    phase, gap, each = state
    phase, gap = (phase + 1) % beat, gap + 1
    if gap > window[1]:
        return [None]
    choices = []
    for (least, most), (ago, reported) in zip(tasks, each):
        choice = []
        if ago + 1 < most:
            choice.append((ago + 1, reported))
        if ago + 1 >= least:
            choice.append((0, True))
        choices.append(choice)
    told = []
    for later in itertools.product(*choices):
        if phase == 0 and all(reported for ago, reported in later):
            if gap < window[0]:
                told.append(None)
            else:
                told.append((0, 0, tuple((ago, False) for ago, reported in later)))
        else:
            told.append((phase, gap, later))
    return told


def first_bite_by_moments(window, beat, tasks):
    """The moment of the first bite by any reports at all, or None, moment by moment."""
    now = {(0, 0, ((0, False),) * len(tasks))}
    seen = set(now)
    moment = 0
    while now:
        moment += 1
        later = {state for early in now for state in step_on(window, beat, tasks, early)}
        if None in later:
            return moment
        now = later - seen
        seen |= now
    return None


def drawn_reports(draw, task, until):
    least, most = task
    moments = []
    now = draw.randint(least, most)
    while now <= until:
        moments.append(now)
        now += draw.choice((least, most, draw.randint(least, most)))
    return moments


class Case(unittest.TestCase):
    def assert_told(self, window, beat, tasks, moment):
        """Steady if no moment is given, else bitten first at this moment."""
        told = steady(window, beat, tasks)
        with self.subTest(window=window, beat=beat, tasks=tasks):
            if moment is None:
                self.assertEqual(told, ("steady",))
                return
            self.assertEqual([type(part) for part in told], [str, list, tuple])
            word, reports, bite = told
            self.assertEqual(word, "bitten")
            self.assertEqual(bite[0], moment)
            self.assertEqual(len(reports), len(tasks))
            for task, moments in zip(tasks, reports):
                self.assert_in_time(task, moments, moment)
            for end in (moment, moment + 1, GREATEST):
                self.assertEqual(found_at(window, beat, reports, end), bite)
            self.assertIsNone(found_at(window, beat, reports, moment - 1))

    def assert_in_time(self, task, moments, until):
        least, most = task
        for early, late in zip([0] + moments, moments):
            self.assertTrue(least <= late - early <= most, moments)
        last = moments[-1] if moments else 0
        self.assertLessEqual(last, until)
        # The next one is not due yet.
        self.assertGreater(last + most, until)


class Told(Case):
    def test_one_task(self):
        self.assert_told((2, 7), 1, [(3, 4)], None)
        self.assert_told((3, 4), 1, [(3, 4)], None)
        self.assert_told((4, 4), 1, [(3, 4)], 3)
        self.assert_told((3, 3), 1, [(3, 4)], 4)
        self.assert_told((2, 4), 2, [(3, 4)], None)
        self.assert_told((3, 4), 2, [(3, 4)], 6)
        self.assert_told((2, 3), 2, [(3, 4)], 4)

    def test_two_tasks(self):
        self.assert_told((1, 4), 1, [(1, 2), (3, 4)], None)
        self.assert_told((3, 4), 1, [(1, 2), (3, 4)], None)
        self.assert_told((3, 3), 1, [(1, 2), (3, 4)], 4)
        self.assert_told((4, 4), 1, [(1, 2), (3, 4)], 3)

    def test_the_words(self):
        self.assertEqual(steady((4, 4), 1, [(3, 3)]), ("bitten", [[3]], (3, "early")))
        self.assertEqual(steady((2, 2), 1, [(3, 3)]), ("bitten", [[3]], (3, "late")))
        self.assertEqual(steady((2, 2), 1, [(4, 4)]), ("bitten", [[]], (3, "late")))
        self.assertEqual(steady((3, 3), 1, [(3, 3)]), ("steady",))

    def test_a_task_that_waits_for_the_other(self):
        self.assert_told((2, 4), 1, [(3, 3)], None)
        self.assert_told((2, 4), 1, [(2, 2)], None)
        self.assert_told((2, 4), 1, [(3, 3), (2, 2)], None)
        self.assert_told((3, 4), 1, [(3, 3), (2, 2)], None)
        self.assert_told((2, 3), 1, [(3, 3), (2, 2)], None)
        self.assert_told((1, 2), 1, [(3, 3), (2, 2)], 3)
        self.assert_told((2, 3), 1, [(2, 3), (2, 3)], None)
        self.assert_told((3, 3), 1, [(2, 3), (2, 3)], 2)
        self.assert_told((3, 3), 1, [(3, 3), (2, 2)], None)

    def test_looks_that_are_too_rare(self):
        self.assert_told((0, 5), 6, [(1, 1)], 6)
        self.assert_told((0, 6), 6, [(1, 1)], None)
        self.assert_told((6, 6), 6, [(1, 6)], None)
        self.assert_told((6, 6), 6, [(1, 7)], 7)
        self.assert_told((7, 9), 6, [(1, 1)], 6)

    def test_a_high_of_nought(self):
        for beat in (1, 6):
            for tasks in ([(1, 1)], [(1, 8)], [(8, 8)], [(1, 1), (1, 8)]):
                self.assert_told((0, 0), beat, tasks, 1)

    def test_a_bite_that_comes_only_behind_many_pats(self):
        self.assert_told((5, 8), 4, [(7, 7)], 28)
        told = steady((5, 8), 4, [(7, 7)])
        self.assertEqual(told, ("bitten", [[7, 14, 21, 28]], (28, "early")))
        self.assertEqual(keeper_pats(4, told[1], 28), [8, 16, 24, 28])
        self.assert_told((4, 8), 4, [(7, 7)], None)
        self.assert_told((5, 8), 4, [(6, 7)], 12)


class Bounds(Case):
    def test_the_greatest_that_is_searched(self):
        self.assert_told((0, 24), 6, [(1, 8), (1, 8)], None)
        self.assert_told((0, 24), 6, [(8, 8), (8, 8)], None)
        self.assert_told((24, 24), 6, [(8, 8), (8, 8)], 12)
        self.assert_told((24, 24), 6, [(1, 1)], 6)
        self.assert_told((0, 24), 1, [(1, 8)], None)

    def test_one_beyond_each(self):
        for window, beat, tasks in TOO_MUCH:
            with self.subTest(window=window, beat=beat, tasks=tasks), self.assertRaises(TooMuch):
                steady(window, beat, tasks)

    def test_bad_tasks(self):
        for tasks in BAD_TASKS:
            with self.subTest(tasks=tasks), self.assertRaises(BadTasks):
                steady((2, 5), 3, tasks)

    def test_bad_beats(self):
        for beat in BAD_BEATS:
            with self.subTest(beat=beat), self.assertRaises(BadBeat):
                steady((2, 5), beat, GOOD)

    def test_bad_windows(self):
        for window in BAD_WINDOWS:
            with self.subTest(window=window), self.assertRaises(BadWindow):
                steady(window, 3, GOOD)

    def test_truths_are_no_numbers(self):
        with self.assertRaises(BadBeat):
            steady((2, 5), True, GOOD)
        with self.assertRaises(BadTasks):
            steady((2, 5), 1, [(True, 2)])

    def test_the_order_of_the_refusals(self):
        for window in BAD_WINDOWS:
            for beat in BAD_BEATS + (1, 7):
                for tasks in BAD_TASKS + (GOOD, [(1, 9)], [(1, 2)] * 3):
                    with self.assertRaises(BadWindow):
                        steady(window, beat, tasks)
        for high in (5, 25):
            for beat in BAD_BEATS:
                for tasks in BAD_TASKS + (GOOD, [(1, 9)], [(1, 2)] * 3):
                    with self.assertRaises(BadBeat):
                        steady((2, high), beat, tasks)
            for beat in (6, 7, 60):
                for tasks in BAD_TASKS:
                    with self.assertRaises(BadTasks):
                        steady((2, high), beat, tasks)

    def test_the_refusals_are_dog_errors(self):
        for window, beat, tasks in (((6, 5), 1, GOOD), ((5, 6), 0, GOOD), ((5, 6), 1, [])) + TOO_MUCH:
            with self.assertRaises(DogError):
                steady(window, beat, tasks)


class Throughout(Case):
    def test_against_all_reports_there_are(self):
        draw = random.Random(16)
        words = {"steady": 0, "bitten": 0}
        for turn in range(120):
            tasks = []
            for at in range(draw.randint(1, 2)):
                most = draw.randint(1, 3)
                tasks.append((draw.randint(1, most), most))
            beat = draw.randint(1, 3)
            high = draw.randint(0, 8)
            window = (draw.choice((0, draw.randint(0, high))), high)
            moment = first_bite_by_reports(window, beat, tasks, 9)
            if moment is None:
                # Up to the last moment that was gone through there is no bite.
                moment = first_bite_by_moments(window, beat, tasks)
                self.assertTrue(moment is None or moment > 9)
            self.assert_told(window, beat, tasks, moment)
            words["bitten" if moment else "steady"] += 1
        self.assertGreater(min(words.values()), 20)

    def test_small_tasks_moment_by_moment(self):
        pairs = [(least, most) for most in (1, 2, 3) for least in range(1, most + 1)]
        some = [[pair] for pair in pairs] + [[one, two] for one in pairs for two in pairs if one <= two]
        for tasks in some:
            for beat in (1, 2, 3):
                for high in range(7):
                    for low in range(0, high + 1, 2):
                        moment = first_bite_by_moments((low, high), beat, tasks)
                        self.assert_told((low, high), beat, tasks, moment)

    def test_drawn_tasks_moment_by_moment(self):
        draw = random.Random(17)
        for turn in range(250):
            tasks = []
            for at in range(draw.randint(1, 2)):
                most = draw.randint(1, 8)
                tasks.append((draw.choice((1, most, draw.randint(1, most))), most))
            beat = draw.randint(1, 6)
            high = draw.randint(0, 24)
            window = (draw.choice((0, draw.randint(0, high))), high)
            moment = first_bite_by_moments(window, beat, tasks)
            self.assert_told(window, beat, tasks, moment)

    def test_steady_ones_are_never_bitten_by_drawn_reports(self):
        draw = random.Random(18)
        some = 0
        for turn in range(400):
            tasks = []
            for at in range(draw.randint(1, 2)):
                most = draw.randint(1, 8)
                tasks.append((draw.randint(1, most), most))
            beat = draw.randint(1, 6)
            window = (draw.randint(0, 4), draw.randint(12, 24))
            if steady(window, beat, tasks) == ("steady",):
                some += 1
                reports = [drawn_reports(draw, task, 500) for task in tasks]
                self.assertIsNone(found_at(window, beat, reports, 480))
        self.assertGreater(some, 100)


class Lists(Case):
    def test_the_reports_that_are_told_may_be_changed(self):
        told = steady((3, 3), 2, [(2, 3), (2, 3)])
        kept = ("bitten", [list(moments) for moments in told[1]], told[2])
        told[1][0].append(99)
        told[1][1][0] = 77
        told[1].append([])
        self.assertEqual(steady((3, 3), 2, [(2, 3), (2, 3)]), kept)

    def test_the_tasks_are_left_alone_and_not_kept(self):
        tasks = [(3, 4)]
        self.assertEqual(steady((3, 4), 1, tasks), ("steady",))
        self.assertEqual(tasks, [(3, 4)])
        tasks[0] = (3, 5)
        self.assertEqual(steady((3, 4), 1, tasks)[0], "bitten")
        tasks.append((0, 1))
        with self.assertRaises(BadTasks):
            steady((3, 4), 1, tasks)


if __name__ == "__main__":
    unittest.main()
