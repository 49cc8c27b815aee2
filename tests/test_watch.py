"""The watcher: points 2 and 3."""

import itertools
import unittest

from windowdog.errors import BadWindow, DogError
from windowdog.watch import bitten_at

GREATEST = 10 ** 30 - 1


def bite_by_moments(low, high, pats, end):
    """The words of point 3, moment by moment."""
    last = 0
    for moment in range(end + 1):
        if moment == last + high + 1:
            return moment, "late"
        for pat in pats:
            if pat == moment:
                if moment - last < low:
                    return moment, "early"
                last = moment
    return None


class Windows(unittest.TestCase):
    def assert_bad(self, *window):
        with self.assertRaises(BadWindow):
            bitten_at(window, [], 0)

    def test_windows_that_may_be(self):
        for window in ((0, 0), (0, 1), (1, 1), (0, 1000), (1000, 1000), (999, 1000), (3, 7)):
            with self.subTest(window=window):
                self.assertEqual(bitten_at(window, [], 5000), (window[1] + 1, "late"))

    def test_high_beyond_a_thousand(self):
        self.assert_bad(0, 1001)
        self.assert_bad(1000, 1001)
        self.assert_bad(1001, 1001)

    def test_low_below_nought(self):
        self.assert_bad(-1, 5)
        self.assert_bad(-1, 0)
        self.assert_bad(-1, -1)

    def test_high_below_nought(self):
        self.assert_bad(0, -1)
        self.assert_bad(-2, -1)

    def test_low_above_high(self):
        self.assert_bad(1, 0)
        self.assert_bad(6, 5)
        self.assert_bad(1001, 1000)

    def test_numbers_of_thirty_figures(self):
        self.assert_bad(0, GREATEST)
        self.assert_bad(GREATEST, GREATEST)
        self.assert_bad(GREATEST, 5)
        self.assert_bad(-GREATEST, 5)
        self.assert_bad(0, -GREATEST)

    def test_truths_are_no_numbers(self):
        self.assert_bad(False, True)
        self.assert_bad(0, True)
        self.assert_bad(False, 3)

    def test_refused_whatever_the_pats_and_the_end_are(self):
        for pats in ([], [0], [3, 4], [GREATEST]):
            for end in (-1, 0, 3, GREATEST):
                with self.subTest(pats=pats, end=end), self.assertRaises(BadWindow):
                    bitten_at((5, 4), pats, end)

    def test_the_refusal_is_a_dog_error(self):
        with self.assertRaises(DogError):
            bitten_at((0, 1001), [], 0)


class Bites(unittest.TestCase):
    def test_no_pats(self):
        self.assertEqual(bitten_at((2, 5), [], 100), (6, "late"))
        self.assertEqual(bitten_at((0, 0), [], 100), (1, "late"))
        self.assertEqual(bitten_at((1000, 1000), [], 1001), (1001, "late"))

    def test_pats_in_time(self):
        self.assertIsNone(bitten_at((2, 5), [3, 6, 11, 13], 18))
        self.assertEqual(bitten_at((2, 5), [3, 6, 11, 13], 19), (19, "late"))

    def test_exactly_low_behind_the_last(self):
        self.assertEqual(bitten_at((3, 5), [3], 100), (9, "late"))
        self.assertEqual(bitten_at((3, 5), [4, 7], 100), (13, "late"))

    def test_one_less_than_low_behind_the_last(self):
        self.assertEqual(bitten_at((3, 5), [2], 100), (2, "early"))
        self.assertEqual(bitten_at((3, 5), [4, 6], 100), (6, "early"))

    def test_exactly_high_behind_the_last(self):
        self.assertEqual(bitten_at((3, 5), [5], 100), (11, "late"))
        self.assertEqual(bitten_at((3, 5), [4, 9], 100), (15, "late"))

    def test_one_more_than_high_behind_the_last(self):
        self.assertEqual(bitten_at((3, 5), [6], 100), (6, "late"))
        self.assertEqual(bitten_at((3, 5), [4, 10], 100), (10, "late"))

    def test_a_pat_long_behind_the_late_bite(self):
        self.assertEqual(bitten_at((3, 5), [50], 100), (6, "late"))
        self.assertEqual(bitten_at((3, 5), [4, 50, 51], 100), (10, "late"))

    def test_pats_of_one_moment_with_low_nought(self):
        self.assertEqual(bitten_at((0, 5), [2, 2, 2], 100), (8, "late"))
        self.assertIsNone(bitten_at((0, 5), [2, 2, 2], 7))

    def test_pats_of_one_moment_with_low_above_nought(self):
        self.assertEqual(bitten_at((1, 5), [2, 2, 2], 100), (2, "early"))
        self.assertEqual(bitten_at((2, 5), [3, 5, 5], 100), (5, "early"))

    def test_a_pat_of_moment_nought(self):
        self.assertEqual(bitten_at((0, 5), [0], 100), (6, "late"))
        self.assertEqual(bitten_at((1, 5), [0], 100), (0, "early"))
        self.assertEqual(bitten_at((1, 5), [0], 0), (0, "early"))

    def test_the_narrowest_window(self):
        self.assertEqual(bitten_at((0, 0), [0, 0], 1), (1, "late"))
        self.assertIsNone(bitten_at((0, 0), [0, 0], 0))
        self.assertEqual(bitten_at((0, 0), [1], 1), (1, "late"))

    def test_only_the_first_bite_is_told(self):
        self.assertEqual(bitten_at((3, 5), [1, 2, 30], 100), (1, "early"))
        self.assertEqual(bitten_at((3, 5), [20, 21], 100), (6, "late"))

    def test_the_greatest_window(self):
        self.assertIsNone(bitten_at((1000, 1000), [1000, 2000], 3000))
        self.assertEqual(bitten_at((1000, 1000), [1000, 1999], 3000), (1999, "early"))
        self.assertEqual(bitten_at((1000, 1000), [1000, 2001], 3000), (2001, "late"))


class Ends(unittest.TestCase):
    def test_ahead_of_the_bite(self):
        self.assertIsNone(bitten_at((3, 5), [], 5))
        self.assertIsNone(bitten_at((3, 5), [4, 6], 5))

    def test_at_the_bite(self):
        self.assertEqual(bitten_at((3, 5), [], 6), (6, "late"))
        self.assertEqual(bitten_at((3, 5), [4, 6], 6), (6, "early"))

    def test_behind_the_bite(self):
        self.assertEqual(bitten_at((3, 5), [], 7), (6, "late"))
        self.assertEqual(bitten_at((3, 5), [4, 6], 7), (6, "early"))

    def test_nought_and_below(self):
        self.assertIsNone(bitten_at((0, 0), [], 0))
        self.assertIsNone(bitten_at((1, 5), [0], -1))
        self.assertIsNone(bitten_at((0, 0), [], -GREATEST))

    def test_a_pat_behind_the_end(self):
        self.assertIsNone(bitten_at((3, 5), [4, 6], 5))
        self.assertIsNone(bitten_at((3, 5), [9], 5))
        self.assertEqual(bitten_at((3, 5), [9], 6), (6, "late"))
        self.assertEqual(bitten_at((3, 5), [9], 8), (6, "late"))

    def test_numbers_of_thirty_figures(self):
        self.assertEqual(bitten_at((3, 5), [GREATEST], GREATEST), (6, "late"))
        self.assertEqual(bitten_at((3, 5), [4, GREATEST, GREATEST], GREATEST), (10, "late"))
        self.assertEqual(bitten_at((3, 5), [2], GREATEST), (2, "early"))

    def test_many_pats(self):
        pats = list(range(4, 40000, 4))
        self.assertEqual(bitten_at((4, 4), pats, GREATEST), (40001, "late"))


class Throughout(unittest.TestCase):
    def test_the_words_of_the_document_moment_by_moment(self):
        windows = [(low, high) for high in range(4) for low in range(high + 1)]
        lists = [list(pats) for many in range(5)
                 for pats in itertools.combinations_with_replacement(range(7), many)]
        for low, high in windows:
            for pats in lists:
                for end in (0, 1, 3, 4, 6, 12):
                    told = bitten_at((low, high), pats, end)
                    self.assertEqual(told, bite_by_moments(low, high, pats, end), (low, high, pats, end))

    def test_a_bite_is_a_tuple_of_a_number_and_a_text(self):
        for pats in ([], [1]):
            told = bitten_at((3, 5), pats, 100)
            self.assertEqual([type(told)] + [type(part) for part in told], [tuple, int, str])

    def test_what_is_handed_in_is_left_alone(self):
        for pats in ([], [4, 8], [4, 5, 6], [2, 50, 50]):
            kept = list(pats)
            bitten_at((3, 5), pats, 100)
            self.assertEqual(pats, kept)

    def test_what_is_handed_in_is_not_kept(self):
        pats = [4, 8]
        self.assertEqual(bitten_at((3, 5), pats, 100), (14, "late"))
        pats.append(9)
        self.assertEqual(bitten_at((3, 5), pats, 100), (9, "early"))
        pats.clear()
        self.assertEqual(bitten_at((3, 5), pats, 100), (6, "late"))


if __name__ == "__main__":
    unittest.main()
