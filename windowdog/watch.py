"""The watcher, which is to be patted in a window of time."""

from windowdog.errors import BadWindow
from windowdog.ranges import is_range

GREATEST_HIGH = 1000


def check_window(window):
    """Refuse a pair that is no window."""
    low, high = window
    if not is_range(low, high, GREATEST_HIGH):
        raise BadWindow("a window is (low, high), low from 0 to high, high up to 1000")


def first_bite(window, pats):
    """Tell the first bite by these pats and none behind them."""
    low, high = window
    last = 0
    for pat in pats:
        if pat > last + high:
            break
        if pat < last + low:
            return pat, "early"
        last = pat
    return last + high + 1, "late"


def bitten_at(window, pats, end):
    """Tell the moment and the word of the first bite up to the end, or None."""
    check_window(window)
    bite = first_bite(window, pats)
    if bite[0] > end:
        return None
    return bite
