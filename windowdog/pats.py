"""The fewest pats that do for a ring of works, and levels that show it."""

from windowdog.errors import BadWorks, NoPats, NoPlace
from windowdog.plans import LONGEST_WORK
from windowdog.ranges import is_number, is_range
from windowdog.watch import check_window

MOST_WORKS = 10


def check_works(works):
    """Refuse pairs that are no works."""
    if not 1 <= len(works) <= MOST_WORKS:
        raise BadWorks("works are one to ten pairs")
    for least, most in works:
        if not is_range(least, most, LONGEST_WORK):
            raise BadWorks("a work is (least, most), least from 0 to most, most up to 1000")


def check_places(works, places):
    """Refuse numbers that are no rising places of these works."""
    last = -1
    for place in places:
        if not is_number(place) or not last < place < len(works):
            raise BadWorks("places rise, from 0 on, up to that of the last work")
        last = place


def plan_with(works, places):
    """Tell the plan of the works, in a row, with pats behind these places."""
    check_works(works)
    check_places(works, places)
    parts = []
    for place, (least, most) in enumerate(works):
        parts.append(("work", least, most))
        if place in places:
            parts.append(("pat",))
    return "row", tuple(parts)


class Ring:
    """Works that are done one behind the other, over and over, and the window of their pats."""

    def __init__(self, window, works):
        check_window(window)
        check_works(works)
        self.low, self.high = window
        self.works = works

    def is_timely(self, works):
        """Tell whether these works together are within the window, however long they take."""
        least = sum([work[0] for work in works])
        most = sum([work[1] for work in works])
        return self.low <= least and most <= self.high

    def fits(self, place, behind):
        """Tell whether a place fits behind another one, or behind itself."""
        if place > behind:
            return self.is_timely(self.works[behind + 1:place + 1])
        return self.is_timely(self.works[behind + 1:] + self.works[:place + 1])

    def first_places(self):
        """Tell all first places, rising."""
        return [place for place in range(len(self.works)) if self.is_timely(self.works[:place + 1])]

    def next_places(self, behind):
        """Tell all greater places that fit behind a place, rising."""
        return [place for place in range(behind + 1, len(self.works)) if self.fits(place, behind)]

    def next_level(self, level):
        """Tell all places that are greater than one of a level and fit behind it, rising."""
        return sorted({place for behind in level for place in self.next_places(behind)})

    def levels_of(self, first):
        """Tell the levels of a first place."""
        told = []
        level = [first]
        while level:
            told.append(level)
            level = self.next_level(level)
        return told

    def comes_back(self, first, levels):
        """Tell whether a first place fits behind one of the places in levels."""
        for level in levels:
            for place in level:
                if self.fits(first, place):
                    return True
        return False


def fewest(window, works):
    """Tell the shortest good row of places, of several the first as lists ascend."""
    ring = Ring(window, works)
    # The rows of one length that are good but for coming back to their first
    # place: as they ascend, so do the longer ones that are made of them.
    rows = [[first] for first in ring.first_places()]
    while rows:
        for row in rows:
            if ring.fits(row[0], row[-1]):
                return row
        rows = [row + [place] for row in rows for place in ring.next_places(row[-1])]
    raise NoPats("no pats do for these works")


def levels_from(window, works, first):
    """Tell the levels of a first place."""
    ring = Ring(window, works)
    if first not in ring.first_places():
        raise NoPlace("this number is no first place")
    return ring.levels_of(first)


def shown(window, works, many):
    """Tell whether the levels show that no good row has fewer places than so many."""
    ring = Ring(window, works)
    looked_at = max(0, many - 1)
    for first in ring.first_places():
        if ring.comes_back(first, ring.levels_of(first)[:looked_at]):
            return False
    return True
