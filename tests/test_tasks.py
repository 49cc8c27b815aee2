"""A keeper that pats where all tasks have reported: points 11 and 12."""

import random
import unittest

from windowdog.errors import BadBeat, BadWindow, DogError
from windowdog.tasks import found_at, keeper_pats
from windowdog.watch import bitten_at

GREATEST = 10 ** 30 - 1
BAD_BEATS = (0, -1, -60, 61, 62, 1000, GREATEST, -GREATEST)
BAD_WINDOWS = ((1, 0), (6, 5), (-1, 5), (0, 1001), (-1, -1), (0, GREATEST), (-GREATEST, 0))


def pats_by_looks(beat, reports, end):
    """The words of point 11, look by look."""
    pats = []
    last = 0
    for look in range(beat, end + 1, beat):
        if all(any(last < moment <= look for moment in moments) for moments in reports):
            pats.append(look)
            last = look
    return pats


def drawn_reports(draw, many, until):
    """Reports of so many tasks, of any gaps."""
    reports = []
    for task in range(many):
        moments = []
        now = draw.randint(1, 9)
        longest = draw.choice((1, 3, 9, 30))
        while now <= until:
            moments.append(now)
            now += draw.randint(1, longest)
        reports.append(moments)
    return reports


class KeeperPats(unittest.TestCase):
    def test_ordinary_reports(self):
        self.assertEqual(keeper_pats(3, [[2, 5, 7, 11]], 20), [3, 6, 9, 12])
        self.assertEqual(keeper_pats(3, [[2, 5, 7, 11], [4, 8, 9, 13]], 20), [6, 9, 15])
        self.assertEqual(keeper_pats(5, [[1, 3], [2, 9], [4, 6], [3, 8]], 20), [5])
        self.assertEqual(keeper_pats(5, [[1, 6], [2, 9], [4, 6], [3, 8]], 20), [5, 10])

    def test_a_report_at_the_very_moment_of_a_look(self):
        self.assertEqual(keeper_pats(4, [[4]], 20), [4])
        self.assertEqual(keeper_pats(4, [[8]], 20), [8])
        self.assertEqual(keeper_pats(4, [[4, 8, 12]], 20), [4, 8, 12])
        self.assertEqual(keeper_pats(4, [[4, 8], [1, 5]], 20), [4, 8])

    def test_a_report_at_a_pat_does_not_count_behind_it(self):
        self.assertEqual(keeper_pats(4, [[4], [2, 7]], 20), [4])
        self.assertEqual(keeper_pats(4, [[4, 9], [2, 7]], 20), [4, 12])

    def test_a_report_one_moment_behind_a_look(self):
        self.assertEqual(keeper_pats(4, [[5]], 20), [8])
        self.assertEqual(keeper_pats(4, [[3, 5, 9]], 20), [4, 8, 12])

    def test_two_reports_of_one_task_between_two_looks(self):
        self.assertEqual(keeper_pats(4, [[1, 2, 3]], 20), [4])
        self.assertEqual(keeper_pats(4, [[1, 2, 6], [3, 5, 7]], 20), [4, 8])
        self.assertEqual(keeper_pats(4, [[1, 2, 3], [2, 6]], 20), [4])

    def test_a_report_counts_at_each_look_until_the_pat(self):
        self.assertEqual(keeper_pats(2, [[1], [11]], 20), [12])
        self.assertEqual(keeper_pats(2, [[1, 12], [11, 13]], 20), [12])
        self.assertEqual(keeper_pats(2, [[1, 13], [11, 13]], 20), [12, 14])

    def test_a_task_that_reports_no_more(self):
        self.assertEqual(keeper_pats(3, [[1, 4, 7, 10, 13], [2, 5]], 50), [3, 6])
        self.assertEqual(keeper_pats(3, [[1, 4], [2, 5, 8, 11]], 50), [3, 6])

    def test_a_task_that_never_did(self):
        self.assertEqual(keeper_pats(3, [[]], 50), [])
        self.assertEqual(keeper_pats(3, [[1, 4, 7, 10], []], 50), [])
        self.assertEqual(keeper_pats(3, [[], [], [], []], GREATEST), [])

    def test_a_beat_of_one(self):
        self.assertEqual(keeper_pats(1, [[1, 2, 3, 5]], 20), [1, 2, 3, 5])
        self.assertEqual(keeper_pats(1, [[1, 2, 5], [2, 3, 4]], 20), [2, 5])

    def test_a_beat_of_sixty(self):
        self.assertEqual(keeper_pats(60, [[1, 60, 61, 180, 181]], 240), [60, 120, 180, 240])
        self.assertEqual(keeper_pats(60, [[60, 120], [59, 121]], 240), [60, 180])

    def test_ends(self):
        reports = [[2, 5, 7, 11]]
        for end in (-GREATEST, -3, -1, 0, 1, 2):
            with self.subTest(end=end):
                self.assertEqual(keeper_pats(3, reports, end), [])
        self.assertEqual(keeper_pats(3, reports, 3), [3])
        self.assertEqual(keeper_pats(3, reports, 5), [3])
        self.assertEqual(keeper_pats(3, reports, 6), [3, 6])
        self.assertEqual(keeper_pats(3, reports, GREATEST), [3, 6, 9, 12])

    def test_moments_of_thirty_figures(self):
        self.assertEqual(keeper_pats(7, [[1, GREATEST - 50]], GREATEST),
                         [7, -(-(GREATEST - 50) // 7) * 7])
        self.assertEqual(keeper_pats(60, [[5, 10 ** 29], [10 ** 29 - 1]], GREATEST),
                         [-(-(10 ** 29 - 1) // 60) * 60])
        self.assertEqual(keeper_pats(1, [[GREATEST]], GREATEST), [GREATEST])
        self.assertEqual(keeper_pats(1, [[GREATEST]], GREATEST - 1), [])

    def test_bad_beats(self):
        for beat in BAD_BEATS:
            for reports in ([[]], [[1, 2], [3]]):
                with self.subTest(beat=beat), self.assertRaises(BadBeat):
                    keeper_pats(beat, reports, 10)

    def test_truths_are_no_beats(self):
        with self.assertRaises(BadBeat):
            keeper_pats(True, [[1]], 10)

    def test_look_by_look(self):
        draw = random.Random(13)
        for turn in range(1500):
            beat = draw.choice((1, 2, 3, 5, 7, 60))
            reports = drawn_reports(draw, draw.randint(1, 4), 120)
            end = draw.randint(0, 200)
            told = keeper_pats(beat, reports, end)
            self.assertEqual(told, pats_by_looks(beat, reports, end), (beat, reports, end))


class FoundAt(unittest.TestCase):
    def test_ordinary_reports(self):
        reports = [[2, 5, 7, 11], [3, 6, 8]]
        self.assertEqual(keeper_pats(3, reports, 50), [3, 6, 9])
        self.assertEqual(found_at((2, 5), 3, reports, 50), (15, "late"))
        self.assertEqual(found_at((3, 5), 3, reports, 50), (15, "late"))
        self.assertEqual(found_at((4, 5), 3, reports, 50), (3, "early"))
        self.assertEqual(found_at((2, 2), 3, reports, 50), (3, "late"))

    def test_ends(self):
        reports = [[2, 5, 7, 11], [3, 6, 8]]
        for end in (-GREATEST, -1, 0, 1, 2, 3, 14):
            with self.subTest(end=end):
                self.assertIsNone(found_at((2, 5), 3, reports, end))
        self.assertEqual(found_at((2, 5), 3, reports, 15), (15, "late"))
        self.assertEqual(found_at((2, 5), 3, reports, GREATEST), (15, "late"))
        self.assertIsNone(found_at((4, 5), 3, reports, 2))
        self.assertEqual(found_at((4, 5), 3, reports, 3), (3, "early"))

    def test_a_task_that_never_did(self):
        self.assertEqual(found_at((0, 7), 3, [[1, 2, 3, 4], []], 50), (8, "late"))
        self.assertEqual(found_at((0, 0), 60, [[]], 50), (1, "late"))
        self.assertEqual(found_at((1000, 1000), 1, [[], []], GREATEST), (1001, "late"))

    def test_a_look_that_comes_too_late(self):
        self.assertEqual(found_at((0, 5), 6, [[1]], 50), (6, "late"))
        self.assertEqual(found_at((0, 6), 6, [[1]], 50), (13, "late"))
        self.assertEqual(found_at((0, 59), 60, [[60, 120]], 500), (60, "late"))
        self.assertEqual(found_at((60, 60), 60, [[60, 120]], 500), (181, "late"))

    def test_an_early_one_behind_pats_in_time(self):
        self.assertEqual(found_at((3, 9), 2, [[1, 4, 5]], 50), (2, "early"))
        self.assertEqual(found_at((3, 9), 2, [[3, 7, 9]], 50), (10, "early"))
        self.assertEqual(found_at((4, 9), 1, [[5, 9, 12]], 50), (12, "early"))

    def test_bad_windows(self):
        for window in BAD_WINDOWS:
            with self.subTest(window=window), self.assertRaises(BadWindow):
                found_at(window, 3, [[1, 2]], 10)

    def test_bad_beats(self):
        for beat in BAD_BEATS:
            for end in (-1, 0, 10, GREATEST):
                with self.subTest(beat=beat), self.assertRaises(BadBeat):
                    found_at((2, 5), beat, [[1, 2]], end)

    def test_bad_window_goes_ahead_of_bad_beat(self):
        for window in BAD_WINDOWS:
            for beat in BAD_BEATS:
                with self.subTest(window=window, beat=beat), self.assertRaises(BadWindow):
                    found_at(window, beat, [[1, 2]], 10)

    def test_the_refusals_are_dog_errors(self):
        for window, beat in (((6, 5), 3), ((5, 6), 0)):
            with self.assertRaises(DogError):
                found_at(window, beat, [[1]], 10)

    def test_the_bite_of_the_pats_look_by_look(self):
        draw = random.Random(14)
        words = {}
        for turn in range(1500):
            beat = draw.choice((1, 2, 3, 5, 7))
            reports = drawn_reports(draw, draw.randint(1, 4), 60)
            high = draw.randint(0, 30)
            window = (draw.choice((0, draw.randint(0, high))), high)
            end = draw.randint(0, 120)
            told = found_at(window, beat, reports, end)
            self.assertEqual(told, bitten_at(window, pats_by_looks(beat, reports, end), end))
            words[told and told[1]] = words.get(told and told[1], 0) + 1
        self.assertGreater(min(words[word] for word in (None, "early", "late")), 50)


class ATaskThatHangs(unittest.TestCase):
    """Point 12: by h + 2 * high + 1 the watcher has bitten."""

    def assert_found(self, window, beat, reports):
        silent = min([moments[-1] if moments else 0 for moments in reports])
        bound = silent + 2 * window[1] + 1
        told = found_at(window, beat, reports, bound)
        self.assertIsNotNone(told, (window, beat, reports))
        self.assertLessEqual(told[0], bound)
        self.assertEqual(found_at(window, beat, reports, GREATEST), told)

    def test_drawn_reports(self):
        draw = random.Random(15)
        for turn in range(2000):
            high = draw.choice((0, 1, draw.randint(0, 60)))
            window = (draw.choice((0, draw.randint(0, high))), high)
            beat = draw.choice((1, draw.randint(1, 60)))
            until = draw.choice((0, 40, 300))
            reports = drawn_reports(draw, draw.randint(1, 4), 500)
            at = draw.randrange(len(reports))
            reports[at] = [moment for moment in reports[at] if moment <= until]
            self.assert_found(window, beat, reports)

    def test_reports_that_bite_as_late_as_can_be(self):
        # A pat at high, one moment ahead of the last report, and none behind the next.
        for high in (1, 2, 10):
            reports = [[1, high + 1], list(range(1, 9 * high))]
            told = found_at((0, high), 1, reports, high + 1 + 2 * high + 1)
            self.assert_found((0, high), 1, reports)
            self.assertEqual(told, (2 * high + 2, "late"))
        reports = [[10, 11], [10, 20]]
        self.assertEqual(keeper_pats(10, reports, 50), [10, 20])
        self.assertEqual(found_at((0, 10), 10, reports, 50), (31, "late"))
        self.assert_found((0, 10), 10, reports)

    def test_a_task_that_never_did(self):
        for high in (0, 1, 9, 1000):
            for beat in (1, 60):
                self.assert_found((0, high), beat, [[], list(range(1, 50))])

    def test_reports_up_to_the_end_are_not_bitten(self):
        reports = [list(range(1, 1000)), list(range(2, 1000, 2))]
        self.assertIsNone(found_at((2, 2), 2, reports, 998))
        self.assert_found((2, 2), 2, reports)


class Lists(unittest.TestCase):
    def test_what_is_handed_in_is_left_alone_and_not_kept(self):
        reports = [[2, 5, 7], [3, 6]]
        told = keeper_pats(3, reports, 50)
        self.assertEqual(found_at((2, 5), 3, reports, 50), (12, "late"))
        self.assertEqual(reports, [[2, 5, 7], [3, 6]])
        reports[1].append(9)
        reports[0].pop()
        self.assertEqual(told, [3, 6])
        reports[0].append(8)
        self.assertEqual(keeper_pats(3, reports, 50), [3, 6, 9])
        self.assertEqual(found_at((2, 5), 3, reports, 50), (15, "late"))

    def test_the_pats_that_are_told_may_be_changed(self):
        reports = [[2, 5, 7]]
        told = keeper_pats(3, reports, 50)
        told.append(1)
        told[0] = 99
        self.assertEqual(keeper_pats(3, reports, 50), [3, 6, 9])


if __name__ == "__main__":
    unittest.main()
