"""The fewest pats that do for a ring of works, and levels that show it: points 7 to 10."""

import itertools
import random
import unittest

from windowdog.errors import BadWindow, BadWorks, DogError, NoPats, NoPlace
from windowdog.judging import judged
from windowdog.pats import fewest, levels_from, plan_with, shown
from windowdog.plans import run_plan
from windowdog.watch import bitten_at

GREATEST = 10 ** 30 - 1
PAT = ("pat",)
BAD_WORKS = (
    [], [(1, 2)] * 11, [(1, 2)] * 40, [(2, 1)], [(1, 0)], [(-1, 2)], [(-2, -1)], [(0, -1)],
    [(0, 1001)], [(1001, 1001)], [(0, GREATEST)], [(-GREATEST, 5)], [(GREATEST, GREATEST)],
    [(1, 2), (3, 2)], [(1, 2), (0, 1001), (1, 2)], [(1, 2)] * 9 + [(-1, 0)],
)
BAD_WINDOWS = ((1, 0), (6, 5), (-1, 5), (0, 1001), (-1, -1), (0, GREATEST), (-GREATEST, 0))


def stretch(works, behind, upto):
    """The works from behind one place up to another one, one by one around the ring."""
    told = []
    at = behind
    while not told or at != upto:
        at = (at + 1) % len(works)
        told.append(works[at])
    return told


def is_timely(window, works):
    return window[0] <= sum(work[0] for work in works) and sum(work[1] for work in works) <= window[1]


def fits(window, works, place, behind):
    return is_timely(window, stretch(works, behind, place))


def is_first(window, works, place):
    return is_timely(window, works[:place + 1])


def is_good(window, works, places):
    """The words of point 8."""
    return (is_first(window, works, places[0])
            and all(fits(window, works, late, early) for early, late in zip(places, places[1:]))
            and fits(window, works, places[0], places[-1]))


def rows_of(works):
    """All rising rows of places but the empty one, the shortest first, each length ascending."""
    for many in range(1, len(works) + 1):
        for places in itertools.combinations(range(len(works)), many):
            yield list(places)


def fewest_by_trying(window, works):
    for places in rows_of(works):
        if is_good(window, works, places):
            return places
    return None


def levels_by_words(window, works, first):
    levels = []
    level = [first]
    while level:
        levels.append(level)
        level = [place for place in range(len(works))
                 if any(place > behind and fits(window, works, place, behind) for behind in level)]
    return levels


def is_shown(window, works, many):
    for first in range(len(works)):
        if is_first(window, works, first):
            for at, level in enumerate(levels_by_words(window, works, first)):
                if at < many - 1 and any(fits(window, works, first, place) for place in level):
                    return False
    return True


def drawn_ring(draw, most_works=6):
    """A small ring and a window for which pats do now and then."""
    works = []
    for turn in range(draw.randint(1, most_works)):
        least = draw.randint(0, 4)
        works.append((least, least + draw.choice((0, 0, 0, 1, 2))))
    low = draw.choice((0, draw.randint(0, 8)))
    return (low, low + draw.randint(0, 12)), works


class PlanWith(unittest.TestCase):
    def assert_bad(self, works, places):
        with self.subTest(works=works, places=places), self.assertRaises(BadWorks):
            plan_with(works, places)

    def test_some_places(self):
        works = [(1, 2), (3, 4), (5, 6)]
        self.assertEqual(plan_with(works, [0, 2]), (
            "row", (("work", 1, 2), PAT, ("work", 3, 4), ("work", 5, 6), PAT)))
        self.assertEqual(plan_with(works, [1]), (
            "row", (("work", 1, 2), ("work", 3, 4), PAT, ("work", 5, 6))))

    def test_no_places(self):
        self.assertEqual(plan_with([(1, 2), (3, 4)], []), ("row", (("work", 1, 2), ("work", 3, 4))))

    def test_all_places(self):
        self.assertEqual(plan_with([(1, 2), (3, 4)], [0, 1]), (
            "row", (("work", 1, 2), PAT, ("work", 3, 4), PAT)))

    def test_one_work(self):
        self.assertEqual(plan_with([(0, 0)], []), ("row", (("work", 0, 0),)))
        self.assertEqual(plan_with([(0, 1000)], [0]), ("row", (("work", 0, 1000), PAT)))

    def test_ten_works(self):
        works = [(at, 1000 - at) for at in range(10)]
        parts = []
        for at in range(10):
            parts += [("work", at, 1000 - at), PAT]
        self.assertEqual(plan_with(works, list(range(10))), ("row", tuple(parts)))
        self.assertEqual(plan_with(works, [9]), ("row", tuple(parts[::2]) + (PAT,)))

    def test_places_that_are_bad(self):
        works = [(1, 2), (3, 4), (5, 6)]
        for places in ([1, 0], [0, 2, 1], [0, 0], [1, 1], [0, 1, 1, 2], [-1], [-1, 0], [3], [0, 3],
                       [GREATEST], [-GREATEST], [0, GREATEST], [2, 1, 0], [0, 1, 2, 3]):
            self.assert_bad(works, places)
        self.assert_bad([(1, 2)], [1])
        self.assert_bad([(1, 2)], [0, 0])

    def test_works_that_are_bad(self):
        for works in BAD_WORKS:
            for places in ([], [0], [0, 1], [1, 0], [-1], [GREATEST]):
                self.assert_bad(works, places)

    def test_bounds(self):
        plan_with([(0, 1000), (1000, 1000), (0, 0)], [0])
        self.assert_bad([(0, 1001)], [0])
        self.assert_bad([(-1, 1000)], [0])
        self.assert_bad([(5, 4)], [0])

    def test_truths_are_no_numbers(self):
        self.assert_bad([(False, True)], [])
        self.assert_bad([(1, 2), (1, 2)], [True])

    def test_it_is_done_as_the_works_are_done(self):
        draw = random.Random(7)
        for turn in range(200):
            works = drawn_ring(draw, 10)[1]
            places = [at for at in range(len(works)) if draw.randrange(2)]
            delays = [draw.randint(least, most) for least, most in works]
            moments = list(itertools.accumulate(delays))
            told = run_plan(plan_with(works, places), delays)
            self.assertEqual(told, ([moments[at] for at in places], moments[-1]))

    def test_the_lists_are_left_alone_and_not_kept(self):
        works, places = [(1, 2), (3, 4)], [1]
        plan = plan_with(works, places)
        self.assertEqual((works, places), ([(1, 2), (3, 4)], [1]))
        works.append((5, 6))
        places.append(2)
        self.assertEqual(plan, ("row", (("work", 1, 2), ("work", 3, 4), PAT)))
        self.assertEqual(plan_with(works, places), (
            "row", (("work", 1, 2), ("work", 3, 4), PAT, ("work", 5, 6), PAT)))


class Fewest(unittest.TestCase):
    def assert_none(self, window, works):
        with self.subTest(window=window, works=works), self.assertRaises(NoPats):
            fewest(window, works)

    def test_ordinary_rings(self):
        self.assertEqual(fewest((2, 5), [(2, 2), (2, 2), (2, 2)]), [0, 1])
        self.assertEqual(fewest((2, 4), [(1, 2), (1, 2), (1, 2), (1, 2)]), [1, 3])
        self.assertEqual(fewest((3, 9), [(3, 4), (2, 3), (1, 2)]), [0])
        self.assertEqual(fewest((1, 3), [(1, 3), (2, 2), (1, 1), (3, 3)]), [0, 2, 3])

    def test_of_several_the_first_as_lists_ascend(self):
        self.assertEqual(fewest((0, 9), [(1, 1)] * 4), [0])
        self.assertEqual(fewest((2, 9), [(1, 1)] * 4), [1])
        self.assertEqual(fewest((0, 3), [(1, 1)] * 5), [0, 2])
        self.assertEqual(fewest((0, 2), [(1, 1)] * 5), [0, 1, 3])

    def test_fewer_ones_go_ahead_of_those_that_ascend_first(self):
        window, works = (0, 4), [(1, 1), (3, 3), (1, 1)]
        self.assertTrue(is_good(window, works, [0, 1]))
        self.assertEqual(fewest((0, 5), works), [0])
        self.assertEqual(fewest(window, works), [0, 1])
        window, works = (2, 6), [(2, 2), (2, 2), (2, 2), (4, 4), (2, 2)]
        self.assertTrue(is_good(window, works, [0, 1, 3]))
        self.assertEqual(fewest(window, works), [1, 3])
        window, works = (1, 5), [(1, 1), (4, 4), (4, 4), (1, 1)]
        self.assertTrue(is_good(window, works, [0, 1, 2]))
        self.assertEqual(fewest(window, works), [1, 3])

    def test_one_work_alone(self):
        self.assertEqual(fewest((2, 5), [(2, 5)]), [0])
        self.assertEqual(fewest((0, 0), [(0, 0)]), [0])
        self.assertEqual(fewest((1000, 1000), [(1000, 1000)]), [0])
        self.assert_none((2, 5), [(1, 5)])
        self.assert_none((2, 5), [(2, 6)])
        self.assert_none((1, 5), [(0, 0)])

    def test_one_place_of_which_the_whole_ring_is_within_the_window(self):
        self.assertEqual(fewest((3, 6), [(1, 2), (1, 2), (1, 2)]), [2])
        self.assertEqual(fewest((2, 6), [(1, 2), (1, 2), (1, 2)]), [1])
        self.assert_none((3, 5), [(1, 2), (1, 2), (1, 2)])
        self.assert_none((4, 6), [(1, 2), (1, 2), (1, 2)])

    def test_works_that_take_no_moment(self):
        self.assertEqual(fewest((0, 0), [(0, 0), (0, 0), (0, 0)]), [0])
        self.assert_none((1, 9), [(0, 0), (0, 0), (0, 0)])
        self.assertEqual(fewest((3, 3), [(0, 0), (3, 3), (0, 0), (3, 3), (0, 0)]), [1, 3])
        self.assertEqual(fewest((0, 3), [(0, 0), (3, 3), (0, 0), (3, 3), (0, 0)]), [0, 1])

    def test_low_nought(self):
        self.assertEqual(fewest((0, 4), [(0, 4), (0, 4)]), [0, 1])
        self.assertEqual(fewest((0, 8), [(0, 4), (0, 4)]), [0])
        self.assert_none((0, 3), [(0, 4), (0, 4)])

    def test_works_shorter_than_the_high_all_together(self):
        self.assertEqual(fewest((0, 1000), [(1, 5)] * 10), [0])
        self.assertEqual(fewest((5, 1000), [(1, 5)] * 10), [4])
        self.assertEqual(fewest((10, 1000), [(1, 5)] * 10), [9])
        self.assert_none((11, 1000), [(1, 5)] * 10)

    def test_the_last_place_to_the_first_one_counts(self):
        self.assert_none((3, 3), [(3, 3), (1, 1)])
        self.assertEqual(fewest((3, 4), [(3, 3), (1, 1)]), [0])
        self.assert_none((3, 3), [(3, 3), (3, 3), (1, 1)])
        self.assertEqual(fewest((3, 4), [(3, 3), (3, 3), (1, 1)]), [0, 1])
        self.assertEqual(fewest((3, 4), [(3, 3), (3, 3), (1, 1), (3, 3)]), [0, 1, 3])

    def test_the_first_place_counts(self):
        self.assert_none((3, 6), [(2, 2), (1, 5)])
        self.assert_none((4, 5), [(1, 1), (2, 2), (3, 3), (4, 4)])
        self.assert_none((0, 5), [(0, 6)] + [(0, 0)] * 9)

    def test_ten_works(self):
        self.assertEqual(fewest((0, 1000), [(0, 1000)] * 10), list(range(10)))
        self.assertEqual(fewest((100, 200), [(100, 100)] * 10), [0, 2, 4, 6, 8])
        self.assertEqual(fewest((300, 400), [(100, 100)] * 10), [2, 5, 8])
        self.assertEqual(fewest((1000, 1000), [(1000, 1000)] * 10), list(range(10)))

    def test_against_trying_all_rows(self):
        draw = random.Random(8)
        lengths = {}
        for turn in range(3000):
            window, works = drawn_ring(draw)
            best = fewest_by_trying(window, works)
            if best is None:
                self.assert_none(window, works)
            else:
                with self.subTest(window=window, works=works):
                    self.assertEqual(fewest(window, works), best)
            many = len(best or [])
            lengths[many] = lengths.get(many, 0) + 1
        self.assertGreater(min(lengths[many] for many in range(4)), 50)

    def test_greater_rings_against_trying_all_rows(self):
        draw = random.Random(88)
        for turn in range(60):
            works = [(least, least + draw.randint(0, 9)) for least in
                     [draw.randint(5, 40) for at in range(draw.randint(7, 10))]]
            low = draw.randint(0, 50)
            window = (low, low + draw.randint(20, 90))
            best = fewest_by_trying(window, works)
            if best is None:
                self.assert_none(window, works)
            else:
                self.assertEqual(fewest(window, works), best)


class TheWhole(unittest.TestCase):
    def assert_safe_if_good(self, window, works, places):
        told = judged(window, plan_with(works, places))
        self.assertEqual(told == ("safe",), is_good(window, works, places), (window, works, places))

    def test_all_places_of_small_rings(self):
        pairs = [(0, 0), (0, 1), (1, 1), (1, 2)]
        for many in (1, 2, 3):
            for works in itertools.product(pairs, repeat=many):
                for window in ((0, 0), (0, 1), (0, 2), (1, 2), (1, 4), (2, 3)):
                    for places in rows_of(works):
                        self.assert_safe_if_good(window, list(works), places)

    def test_all_places_of_drawn_rings(self):
        draw = random.Random(9)
        for turn in range(150):
            window, works = drawn_ring(draw)
            for places in rows_of(works):
                self.assert_safe_if_good(window, works, places)

    def test_the_fewest_pats_are_safe_and_fewer_are_not(self):
        draw = random.Random(10)
        safe = 0
        for turn in range(300):
            window, works = drawn_ring(draw)
            try:
                best = fewest(window, works)
            except NoPats:
                best = list(range(len(works) + 1))
            else:
                safe += 1
                self.assertEqual(judged(window, plan_with(works, best)), ("safe",))
            for places in rows_of(works):
                if (len(places), places) < (len(best), best):
                    self.assertEqual(judged(window, plan_with(works, places))[0], "bitten")
        self.assertGreater(safe, 60)

    def test_no_pats_at_all(self):
        self.assertEqual(judged((0, 5), plan_with([(0, 1), (0, 0)], []))[0], "bitten")
        # Works that take no moment are not bitten, as no moment comes.
        self.assertEqual(judged((0, 5), plan_with([(0, 0), (0, 0)], [])), ("safe",))

    def test_bites_are_those_of_the_works(self):
        told = judged((2, 5), plan_with([(2, 3), (2, 3)], [0]))
        self.assertEqual(told[0], "bitten")
        delays = told[2]
        moments = list(itertools.accumulate(delays))
        self.assertEqual(bitten_at((2, 5), moments[::2], moments[-1]), told[3])


class LevelsFrom(unittest.TestCase):
    def test_ordinary_rings(self):
        works = [(1, 1)] * 5
        self.assertEqual(levels_from((1, 2), works, 0), [[0], [1, 2], [2, 3, 4], [3, 4], [4]])
        self.assertEqual(levels_from((1, 2), works, 1), [[1], [2, 3], [3, 4], [4]])
        self.assertEqual(levels_from((2, 2), works, 1), [[1], [3]])
        self.assertEqual(levels_from((2, 3), works, 2), [[2], [4]])

    def test_the_first_alone(self):
        self.assertEqual(levels_from((2, 5), [(2, 5)], 0), [[0]])
        self.assertEqual(levels_from((3, 5), [(3, 3), (1, 1)], 0), [[0]])
        self.assertEqual(levels_from((0, 9), [(1, 1)] * 4, 3), [[3]])

    def test_a_place_may_stand_in_several_levels(self):
        told = levels_from((0, 9), [(1, 1)] * 4, 0)
        self.assertEqual(told, [[0], [1, 2, 3], [2, 3], [3]])

    def test_a_place_that_fits_around_the_end_is_in_no_level(self):
        # Place 0 fits behind 2, but is not greater.
        works = [(1, 1), (5, 5), (2, 2)]
        self.assertEqual(levels_from((1, 7), works, 0), [[0], [1, 2], [2]])
        self.assertEqual(levels_from((1, 7), works, 1), [[1], [2]])

    def test_a_place_that_fits_behind_one_but_stands_ahead_of_it(self):
        works = [(2, 2), (2, 2), (2, 2), (2, 2)]
        self.assertEqual(levels_from((4, 6), works, 1), [[1], [3]])
        self.assertEqual(levels_from((4, 6), works, 2), [[2]])

    def test_works_that_take_no_moment(self):
        self.assertEqual(levels_from((0, 0), [(0, 0)] * 3, 0), [[0], [1, 2], [2]])
        self.assertEqual(levels_from((0, 0), [(0, 0)] * 3, 2), [[2]])

    def test_all_levels_of_ten_works(self):
        told = levels_from((0, 1000), [(0, 100)] * 10, 0)
        self.assertEqual(told, [[0]] + [list(range(at, 10)) for at in range(1, 10)])

    def test_level_by_level(self):
        draw = random.Random(11)
        deep = 0
        for turn in range(2000):
            window, works = drawn_ring(draw)
            for first in range(len(works)):
                if is_first(window, works, first):
                    told = levels_from(window, works, first)
                    self.assertEqual(told, levels_by_words(window, works, first), (window, works, first))
                    deep += len(told) > 2
                else:
                    with self.subTest(window=window, works=works), self.assertRaises(NoPlace):
                        levels_from(window, works, first)
        self.assertGreater(deep, 100)

    def test_no_first_place(self):
        works = [(2, 2), (2, 2), (2, 2), (2, 2)]
        for first in (0, 3, 4, 5, -1, -2, -3, -4, GREATEST, -GREATEST):
            with self.subTest(first=first), self.assertRaises(NoPlace):
                levels_from((4, 6), works, first)
        for first in range(-2, 4):
            with self.subTest(first=first), self.assertRaises(NoPlace):
                levels_from((9, 9), works, first)

    def test_lists_that_are_told_may_be_changed(self):
        works = [(1, 1)] * 4
        told = levels_from((0, 9), works, 0)
        told[0].append(7)
        told[1][0] = 9
        told.append([1])
        self.assertEqual(levels_from((0, 9), works, 0), [[0], [1, 2, 3], [2, 3], [3]])


class Shown(unittest.TestCase):
    def test_the_number_of_the_fewest_and_one_more(self):
        for window, works, many in (((2, 5), [(2, 2)] * 3, 2), ((0, 2), [(1, 1)] * 5, 3),
                                    ((0, 9), [(1, 1)] * 4, 1), ((0, 1000), [(0, 1000)] * 10, 10)):
            with self.subTest(window=window, works=works):
                self.assertEqual(len(fewest(window, works)), many)
                for number in range(-3, many + 1):
                    self.assertIs(shown(window, works, number), True)
                for number in range(many + 1, many + 15):
                    self.assertIs(shown(window, works, number), False)

    def test_numbers_far_off(self):
        works = [(2, 2)] * 3
        for number in (-1, -2, -11, -GREATEST):
            self.assertIs(shown((2, 5), works, number), True)
        for number in (11, 12, 1000, GREATEST):
            self.assertIs(shown((2, 5), works, number), False)

    def test_no_good_row(self):
        # Without a first place, with ones that nothing fits behind, with none to come back to.
        for window, works in (((5, 9), [(1, 2)]), ((3, 3), [(3, 3), (1, 1)]),
                              ((3, 3), [(3, 3), (3, 3), (1, 1)])):
            for number in (-GREATEST, -1, 0, 1, 2, 3, 4, 11, GREATEST):
                with self.subTest(window=window, works=works, number=number):
                    self.assertIs(shown(window, works, number), True)

    def test_each_first_place_counts(self):
        # From place 0 on three pats do, but from place 1 on two.
        window, works = (1, 5), [(1, 1), (4, 4), (4, 4), (1, 1)]
        self.assertEqual(fewest(window, works), [1, 3])
        self.assertIs(shown(window, works, 2), True)
        self.assertIs(shown(window, works, 3), False)

    def test_by_its_words_and_by_the_fewest(self):
        draw = random.Random(12)
        for turn in range(1000):
            window, works = drawn_ring(draw)
            best = fewest_by_trying(window, works)
            for number in range(-2, len(works) + 4):
                told = shown(window, works, number)
                self.assertIsInstance(told, bool)
                self.assertEqual(told, is_shown(window, works, number), (window, works, number))
                self.assertEqual(told, best is None or number <= len(best), (window, works, number))


class Refusals(unittest.TestCase):
    def calls(self, window, works):
        return (lambda: fewest(window, works), lambda: levels_from(window, works, 0),
                lambda: levels_from(window, works, -1), lambda: levels_from(window, works, GREATEST),
                lambda: shown(window, works, 1), lambda: shown(window, works, -GREATEST))

    def assert_refused(self, kind, window, works):
        for at, call in enumerate(self.calls(window, works)):
            with self.subTest(window=window, works=works, at=at), self.assertRaises(kind):
                call()

    def test_bad_windows(self):
        for window in BAD_WINDOWS:
            self.assert_refused(BadWindow, window, [(1, 2), (1, 2)])

    def test_bad_works(self):
        for works in BAD_WORKS:
            self.assert_refused(BadWorks, (2, 5), works)
            self.assert_refused(BadWorks, (0, 1000), works)

    def test_bad_window_goes_ahead_of_bad_works(self):
        for window in BAD_WINDOWS:
            for works in BAD_WORKS:
                self.assert_refused(BadWindow, window, works)

    def test_bad_window_goes_ahead_of_no_place_and_no_pats(self):
        for call in self.calls((6, 5), [(9, 9)]):
            with self.assertRaises(BadWindow):
                call()

    def test_the_refusals_are_dog_errors(self):
        for call in (lambda: plan_with([], []), lambda: fewest((5, 5), [(1, 1)]),
                     lambda: levels_from((5, 5), [(1, 1)], 0), lambda: fewest((6, 5), [(1, 1)])):
            with self.assertRaises(DogError):
                call()


class Lists(unittest.TestCase):
    def test_lists_that_are_handed_in_are_left_alone_and_not_kept(self):
        works = [(1, 1)] * 4
        told = (fewest((0, 2), works), levels_from((0, 2), works, 1), shown((0, 2), works, 2))
        self.assertEqual(works, [(1, 1)] * 4)
        works.append((2, 2))
        self.assertEqual(told, ([0, 2], [[1], [2, 3], [3]], True))
        self.assertEqual(fewest((0, 2), works), [1, 3, 4])

    def test_the_places_that_are_told_may_be_changed(self):
        works = [(1, 1)] * 4
        told = fewest((0, 2), works)
        told.append(7)
        told[0] = 9
        self.assertEqual(fewest((0, 2), works), [0, 2])


if __name__ == "__main__":
    unittest.main()
