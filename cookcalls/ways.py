"""The ways of moments down a tree, and how far two moments may come apart by the times on them."""

from cookcalls.kinds import CLOCK
from cookcalls.moments import EDGES


def way_up(name, hooks):
    """Return the dishes on the way to the start of the dish, first one that hangs on the clock."""
    names = []
    hook = hooks[name]
    while hook != CLOCK:
        names.append(hook)
        hook = hooks[hook]
    return names[::-1]


def end_of(hook, hooks):
    """Return the dish that hangs on nothing yet, or the clock, to which the hooks lead."""
    at = hook
    while at in hooks:
        at = hooks[at]
    return at


def way_of(moment, hooks):
    """Return the dishes whose times the moment waits for."""
    if moment == CLOCK:
        return []
    edge, name = moment
    way = way_up(name, hooks)
    return way if edge == EDGES[0] else way + [name]


def dish_of(moment):
    """Return the dish of the moment, or the clock."""
    return CLOCK if moment == CLOCK else moment[1]


def spread(one, other, hooks, bounds):
    """Return the most minutes by which the times alone may bring the moment other behind the moment one."""
    return most_longer(way_of(one, hooks), way_of(other, hooks), bounds)


def most_longer(mine, yours, bounds):
    """Return the most minutes by which the times on your way may add up to more than those on mine."""
    # What is on both ways cancels; of the rest, each time stands at its worse end.
    longest = sum([bounds[name][1] for name in yours if name not in mine])
    return longest - sum([bounds[name][0] for name in mine if name not in yours])


def times_longer(mine, yours, bounds):
    """Return times in which it is by so many minutes."""
    long = [name for name in yours if name not in mine]
    return {name: bounds[name][1] if name in long else bounds[name][0] for name in bounds}
