"""A keeper that pats where all tasks have reported, and how it finds a task that hangs."""

from windowdog.errors import BadBeat, BadTasks, TooMuch
from windowdog.ranges import is_number, is_range
from windowdog.watch import bitten_at, check_window

GREATEST_BEAT = 60
MOST_TASKS = 4
LONGEST_TASK = 60

# What is beyond these is too much to be searched.
MOST_SEARCHED_TASKS = 2
LONGEST_SEARCHED_TASK = 8
GREATEST_SEARCHED_BEAT = 6
GREATEST_SEARCHED_HIGH = 24


def check_beat(beat):
    """Refuse a number that is no beat."""
    if not is_number(beat) or not 1 <= beat <= GREATEST_BEAT:
        raise BadBeat("a beat is from 1 to 60")


def check_tasks(tasks):
    """Refuse pairs that are no tasks."""
    if not 1 <= len(tasks) <= MOST_TASKS:
        raise BadTasks("tasks are one to four pairs")
    for least, most in tasks:
        if not is_range(least, most, LONGEST_TASK) or least == 0:
            raise BadTasks("a task is (least, most), least from 1 to most, most up to 60")


def check_searched(window, beat, tasks):
    """Refuse a window, a beat and tasks that are too much to be searched."""
    longest = max([most for least, most in tasks])
    if len(tasks) > MOST_SEARCHED_TASKS or longest > LONGEST_SEARCHED_TASK:
        raise TooMuch("more than two tasks, or one that takes more than 8")
    if beat > GREATEST_SEARCHED_BEAT or window[1] > GREATEST_SEARCHED_HIGH:
        raise TooMuch("a beat beyond 6, or a high beyond 24")


def first_behind(moments, at, last):
    """Tell the place, from at on, of the first moment behind the last pat, or the end of the list."""
    while at < len(moments) and moments[at] <= last:
        at += 1
    return at


def keeper_pats(beat, reports, end):
    """Tell the pats of a keeper, with these reports, up to the end."""
    check_beat(beat)
    pats = []
    last = 0
    places = [0 for moments in reports]
    while True:
        places = [first_behind(moments, at, last) for moments, at in zip(reports, places)]
        # Behind the last pat, and by when all tasks have reported.
        due = last + 1
        for moments, at in zip(reports, places):
            if at == len(moments):
                return pats
            due = max(due, moments[at])
        last = (due + beat - 1) // beat * beat
        if last > end:
            return pats
        pats.append(last)


def found_at(window, beat, reports, end):
    """Tell the first bite of the watcher that such a keeper pats, up to the end, or None."""
    # Ahead of the pats, which refuse a bad beat.
    check_window(window)
    return bitten_at(window, keeper_pats(beat, reports, end), end)


def waits_behind(task, wait):
    """Tell how many moments ago a task may have reported a moment later: 0 if it does so then."""
    least, most = task
    if wait + 1 < least:
        return [wait + 1]
    if wait + 1 == most:
        return [0]
    return [wait + 1, 0]


def all_waits_behind(tasks, waits):
    """Tell the same of all tasks together, as a list of tuples."""
    rows = [()]
    for task, wait in zip(tasks, waits):
        rows = [row + (later,) for row in rows for later in waits_behind(task, wait)]
    return rows


def is_patted(beat, gap, waits):
    """Tell whether the keeper pats, so many moments behind its last pat.

    Pats stand at multiples of the beat, so that the looks do so behind them, too.
    """
    return gap % beat == 0 and max(waits) < gap


def bite_word(window, beat, gap, waits):
    """Tell the word of the bite so many moments behind the last pat, or None."""
    low, high = window
    if gap > high:
        return "late"
    if gap < low and is_patted(beat, gap, waits):
        return "early"
    return None


def path_to(ahead, step):
    """Tell all the steps to this one, from that of moment 0 on."""
    path = []
    while step is not None:
        path.append(step)
        step = ahead[step]
    return path[::-1]


def reports_along(tasks, path):
    """Tell the reports of each task along the steps from moment 0 on."""
    reports = []
    for at in range(len(tasks)):
        reports.append([moment for moment in range(1, len(path)) if path[moment][1][at] == 0])
    return reports


def steady(window, beat, tasks):
    """Tell whether the watcher never bites, or reports by which it bites first."""
    check_window(window)
    check_beat(beat)
    check_tasks(tasks)
    check_searched(window, beat, tasks)
    # A step is how long ago the last pat was, and the last reports. What can come
    # behind it depends on nothing else, so each one is looked at once: at the
    # first moment at which it can be, as all steps of a moment go ahead of the next.
    start = (0, (0,) * len(tasks))
    ahead = {start: None}
    steps = [start]
    while steps:
        later = []
        for step in steps:
            gap = step[0] + 1
            for waits in all_waits_behind(tasks, step[1]):
                word = bite_word(window, beat, gap, waits)
                if word is not None:
                    path = path_to(ahead, step) + [(gap, waits)]
                    return "bitten", reports_along(tasks, path), (len(path) - 1, word)
                following = (gap, waits)
                if is_patted(beat, gap, waits):
                    following = (0, waits)
                if following not in ahead:
                    ahead[following] = step
                    later.append(following)
        steps = later
    return ("steady",)
