"""Plans of works, choices, loops and pats, and how one is done."""

from windowdog.errors import BadDelays, BadPlan
from windowdog.ranges import is_number, is_range

LONGEST_WORK = 1000
MOST_TIMES = 9
LONGEST_ROW = 20
MOST_PLANS = 30
MOST_DEEP = 6
MOST_LOOPS = 2


def has_form(plan):
    """Tell whether this is a plan, if the plans directly in it are plans."""
    if not isinstance(plan, tuple) or not plan:
        return False
    word = plan[0]
    if word == "pat":
        return len(plan) == 1
    if word == "work":
        return len(plan) == 3 and is_range(plan[1], plan[2], LONGEST_WORK)
    if word == "row" or word == "either":
        return len(plan) == 2 and isinstance(plan[1], tuple) and 1 <= len(plan[1]) <= LONGEST_ROW
    if word == "loop":
        return len(plan) == 4 and is_range(plan[1], plan[2], MOST_TIMES)
    return False


def plans_in(plan):
    """Tell the plans directly in a plan, as a tuple."""
    if plan[0] == "row" or plan[0] == "either":
        return plan[1]
    if plan[0] == "loop":
        return (plan[3],)
    return ()


def check_plan(plan):
    """Refuse what is no plan."""
    waiting = [(plan, 1, 0)]
    many = 0
    # Each plan is counted as it is looked at, so that a tuple that stands in
    # many places, each within the next, is refused before it has been spread out.
    while waiting:
        part, deep, loops = waiting.pop()
        many += 1
        if many > MOST_PLANS or deep > MOST_DEEP or not has_form(part):
            raise BadPlan("this tuple is no plan, or has too many plans in it")
        if part[0] == "loop":
            loops += 1
        if loops > MOST_LOOPS:
            raise BadPlan("more than two loops stand within one another")
        for inner in plans_in(part):
            waiting.append((inner, deep + 1, loops))


class Run:
    """A plan while it is done: the moment, the pats so far, the delays used so far."""

    def __init__(self, delays):
        self.delays = delays
        self.used = 0
        self.now = 0
        self.pats = []

    def take(self, least, most):
        """Use the next delay, which must be from least to most."""
        at = self.used
        if at == len(self.delays):
            raise BadDelays(at)
        delay = self.delays[at]
        if not is_number(delay) or not least <= delay <= most:
            raise BadDelays(at)
        self.used += 1
        return delay

    def follow(self, plan):
        """Do a plan from the present moment on."""
        word = plan[0]
        if word == "pat":
            self.pats.append(self.now)
        elif word == "work":
            self.now += self.take(plan[1], plan[2])
        elif word == "row":
            for part in plan[1]:
                self.follow(part)
        elif word == "either":
            which = self.take(0, len(plan[1]) - 1)
            self.follow(plan[1][which])
        else:
            times = self.take(plan[1], plan[2])
            for turn in range(times):
                self.follow(plan[3])


def run_plan(plan, delays):
    """Tell the moments of all pats of a plan, and the moment at which it is over."""
    check_plan(plan)
    run = Run(delays)
    run.follow(plan)
    if run.used < len(delays):
        raise BadDelays(run.used)
    return run.pats, run.now
