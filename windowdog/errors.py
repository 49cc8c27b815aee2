"""All the refusals of the program."""


class DogError(ValueError):
    """Any refusal."""


class BadWindow(DogError):
    """A pair of numbers that is no window."""


class BadPlan(DogError):
    """A tuple that is no plan."""


class BadDelays(DogError):
    """Delays that a plan can't be done with; at is the place where they go wrong."""

    def __init__(self, at):
        DogError.__init__(self, f"the plan can't be done with these delays, see place {at}")
        self.at = at


class BadWorks(DogError):
    """Pairs that are no works, or places that are none of theirs."""


class NoPats(DogError):
    """Works for which no pats do."""


class NoPlace(DogError):
    """A place that is no first place."""


class BadTasks(DogError):
    """Pairs that are no tasks."""


class BadBeat(DogError):
    """A number that is no beat."""


class TooMuch(DogError):
    """Tasks, a beat or a window greater than can be searched."""
