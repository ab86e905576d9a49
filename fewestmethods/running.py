"""Runs: the steps of a call, performed one after another."""

from fewestmethods.bodies import SAY_WORD
from fewestmethods.errors import InvalidLimit
from fewestmethods.errors import TooManySteps

MAX_RUN_STEPS = 200


def is_run_limit(value):
    """Whether the value is an integer from 0 to 200."""
    return isinstance(value, int) and not isinstance(value, bool) and 0 <= value <= MAX_RUN_STEPS


def require_run_limit(value):
    """Raises InvalidLimit if the value is not an integer from 0 to 200."""
    if not is_run_limit(value):
        raise InvalidLimit(value)


def waiting_steps(steps, point):
    """The steps of a call at a point, each with the point, the first one last."""
    return [(step, point) for step in steps[::-1]]


def point_of_arguments(arguments, point):
    """The point that a call step in a call at a point means."""
    return tuple([point[item] if isinstance(item, int) else item for item in arguments])


def run(dispatcher, function, point, *, limit=MAX_RUN_STEPS):
    """The words of the run of a function at a point."""
    require_run_limit(limit)
    # A list of what is left to do instead of calls of this function, which would nest too deep.
    waiting = waiting_steps(dispatcher.call(function, point), point)
    words = []
    begun = 0
    while len(waiting) > 0:
        if begun == limit:
            raise TooManySteps(limit)
        begun += 1
        step, here = waiting.pop()
        if step[0] == SAY_WORD:
            words.append(step[1])
        else:
            there = point_of_arguments(step[2], here)
            waiting.extend(waiting_steps(dispatcher.call(step[1], there), there))
    return words
