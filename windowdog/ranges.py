"""What all files ask of numbers and of ranges of them."""


def is_number(value):
    """Tell whether a value is a whole number; True and False are none."""
    return isinstance(value, int) and not isinstance(value, bool)


def is_range(least, most, limit):
    """Tell whether these are numbers from 0 to limit, the first no more than the second."""
    return is_number(least) and is_number(most) and 0 <= least <= most <= limit
