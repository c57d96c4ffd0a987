"""Improving a holding, one improvement after another, until it is efficient."""

from lastturn.efficient import improvement, is_improvement
from lastturn.parties import table_gifts


def carried_out(holding, step):
    """Return the holding after an improvement."""
    after = dict(holding)
    if step[0] == "table":
        after[step[1]] = step[2]
    else:
        for at, guest in enumerate(step[1]):
            # The guest before this one takes what this one has; the one before the first is the last.
            after[step[1][at - 1]] = holding[guest]
    return after


def improve(wishes, holding):
    """Return a list of improvements, one after another, and the efficient holding that they lead to."""
    # Only called to check the holding.
    table_gifts(wishes, holding)
    result = {guest: holding[guest] for guest in wishes.guests()}
    steps = []
    step = improvement(wishes, result)
    while step is not None:
        result = carried_out(result, step)
        steps.append(step)
        step = improvement(wishes, result)
    return steps, result


def is_improved(wishes, holding, value):
    """Return True if the value is a tuple of improvements and the efficient holding after them, otherwise False."""
    table_gifts(wishes, holding)
    if not isinstance(value, tuple) or len(value) != 2 or not isinstance(value[0], list):
        return False
    result = holding
    for step in value[0]:
        if not is_improvement(wishes, result, step):
            return False
        result = carried_out(result, step)
    return result == value[1] and improvement(wishes, result) is None
