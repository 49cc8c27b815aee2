"""Whether a plan that is done over and over is ever bitten, and by which delays.

A gap is how many moments ago the last pat was; the gap one beyond high stands
for a watcher that has bitten, and it stays so. A set of gaps is a number, of
which the bit of each gap that is in the set is 1: so all gaps that a work leads
from, or to, are told at once by shifting it.
"""

from windowdog.plans import Run, check_plan
from windowdog.watch import check_window, first_bite


def holds(gaps, gap):
    """Tell whether a gap is in a set of gaps."""
    return (gaps >> gap) & 1 == 1


def spread(gaps, most):
    """Tell the set of all gaps from 0 to most moments beyond one of these."""
    done = 0
    # Each turn doubles how far the set is spread, or goes as far as is left.
    while done < most:
        step = min(done + 1, most - done)
        gaps = gaps | (gaps << step)
        done += step
    return gaps


class Watcher:
    """What a window makes of gaps."""

    def __init__(self, window):
        self.low, self.high = window
        self.bitten = self.high + 1
        self.bite = 1 << self.bitten
        self.too_soon = (1 << self.low) - 1
        self.timely = self.bite - (1 << self.low)

    def gap_behind_pat(self, gap):
        """Tell the gap behind a pat."""
        if self.low <= gap <= self.high:
            return 0
        return self.bitten

    def gap_behind_work(self, gap, delay):
        """Tell the gap behind a work that takes so long."""
        return min(gap + delay, self.bitten)

    def gaps_ahead_of_pat(self, goal):
        """Tell the set of gaps from which a pat leads into the goal."""
        gaps = 0
        if holds(goal, 0):
            gaps = gaps | self.timely
        if holds(goal, self.bitten):
            gaps = gaps | self.too_soon | self.bite
        return gaps

    def gaps_ahead_of_work(self, goal, least, most):
        """Tell the set of gaps from which a work of some length leads into the goal."""
        if holds(goal, self.bitten):
            # Each gap beyond high stands for bitten, as far as a work can lead.
            goal = goal | spread(self.bite, most)
        gaps = spread(goal, most - least) >> most
        return gaps & (self.timely | self.too_soon | self.bite)


class PatWay:
    """A pat on the way into a goal, from the gaps from which it leads there."""

    def __init__(self, watcher, goal):
        self.watcher = watcher
        self.gaps = watcher.gaps_ahead_of_pat(goal)

    def lead(self, gap, delays):
        """Go from one of the gaps into the goal, add the delays of it, tell the gap behind it."""
        return self.watcher.gap_behind_pat(gap)


class WorkWay:
    """A work on the way into a goal."""

    def __init__(self, watcher, plan, goal):
        self.watcher = watcher
        self.goal = goal
        self.least = plan[1]
        self.gaps = watcher.gaps_ahead_of_work(goal, plan[1], plan[2])

    def lead(self, gap, delays):
        """Go by the shortest delay that leads into the goal."""
        delay = self.least
        while not holds(self.goal, self.watcher.gap_behind_work(gap, delay)):
            delay += 1
        delays.append(delay)
        return self.watcher.gap_behind_work(gap, delay)


class RowWay:
    """A row on the way into a goal: the ways of its plans, the last one first."""

    def __init__(self, watcher, plan, goal):
        self.ways = []
        for part in reversed(plan[1]):
            way = way_to(watcher, part, goal)
            self.ways.append(way)
            goal = way.gaps
        self.gaps = goal

    def lead(self, gap, delays):
        """Go by all the plans of the row."""
        for way in reversed(self.ways):
            gap = way.lead(gap, delays)
        return gap


class EitherWay:
    """An either on the way into a goal: the ways of its plans."""

    def __init__(self, watcher, plan, goal):
        self.ways = [way_to(watcher, part, goal) for part in plan[1]]
        self.gaps = 0
        for way in self.ways:
            self.gaps = self.gaps | way.gaps

    def lead(self, gap, delays):
        """Go by the first plan that leads into the goal."""
        which = 0
        while not holds(self.ways[which].gaps, gap):
            which += 1
        delays.append(which)
        return self.ways[which].lead(gap, delays)


class LoopWay:
    """A loop on the way into a goal: the ways of its turns, the last one first."""

    def __init__(self, watcher, plan, goal):
        self.least = plan[1]
        self.turns = []
        self.goals = [goal]
        for turn in range(plan[2]):
            # A turn that leads into the same gaps as the next one is the same as
            # that one: not to look at it again saves most of the time of loops.
            if turn > 0 and self.goals[turn] == self.goals[turn - 1]:
                way = self.turns[-1]
            else:
                way = way_to(watcher, plan[3], self.goals[turn])
            self.turns.append(way)
            self.goals.append(way.gaps)
        self.gaps = 0
        for gaps in self.goals[self.least:]:
            self.gaps = self.gaps | gaps

    def lead(self, gap, delays):
        """Go by the fewest turns that lead into the goal."""
        times = self.least
        while not holds(self.goals[times], gap):
            times += 1
        delays.append(times)
        for way in reversed(self.turns[:times]):
            gap = way.lead(gap, delays)
        return gap


def way_to(watcher, plan, goal):
    """Tell the way of a plan into a goal."""
    word = plan[0]
    if word == "pat":
        return PatWay(watcher, goal)
    if word == "work":
        return WorkWay(watcher, plan, goal)
    if word == "row":
        return RowWay(watcher, plan, goal)
    if word == "either":
        return EitherWay(watcher, plan, goal)
    return LoopWay(watcher, plan, goal)


def goals_of_rounds(watcher, plan):
    """Tell the sets of gaps from which 0, 1, 2 .. rounds can lead to a bite.

    The last one is the first that has the gap 0; None if there is none such.
    """
    goals = [watcher.bite]
    while not holds(goals[-1], 0):
        gaps = way_to(watcher, plan, goals[-1]).gaps
        # A bitten watcher stays so: each set has all of the one ahead of it.
        if gaps == goals[-1]:
            return None
        goals.append(gaps)
    return goals


def delays_of_rounds(watcher, plan, goals):
    """Tell delays by which rounds lead from the gap 0 through the goals, the last one first."""
    gap = 0
    delays = []
    for goal in reversed(goals[:-1]):
        gap = way_to(watcher, plan, goal).lead(gap, delays)
    return delays


def bite_of_rounds(window, plan, rounds, delays):
    """Tell the first bite of so many rounds with these delays, by which one comes."""
    run = Run(delays)
    for turn in range(rounds):
        run.follow(plan)
    return first_bite(window, run.pats)


def judged(window, plan):
    """Tell whether a plan that is done over and over is safe, or delays by which it is bitten."""
    check_window(window)
    check_plan(plan)
    watcher = Watcher(window)
    goals = goals_of_rounds(watcher, plan)
    if goals is None:
        return ("safe",)
    rounds = len(goals) - 1
    delays = delays_of_rounds(watcher, plan, goals)
    return "bitten", rounds, delays, bite_of_rounds(window, plan, rounds, delays)
