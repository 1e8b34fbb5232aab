"""Times told back: what the dishes took, by the minutes at which some moments were seen."""

from cookcalls.checks import check_same
from cookcalls.choices import least_sets
from cookcalls.errors import BadSeen
from cookcalls.judging import dones_by, time_rows, wished_row
from cookcalls.kinds import CLOCK, is_integer
from cookcalls.moments import is_moment
from cookcalls.raising import bounded


def told_back(meal, book, seen):
    """Return the least and the most minutes that each dish took in any times in which all was as seen, or None."""
    rows = seen_rows(meal, book, seen) + time_rows(meal.dishes(), book)
    if not can_be(rows, book):
        return None
    # The rows lead from each done to each other one, so that both of two have a greatest number beside the other.
    furthest = {name: bounded(name, rows, len(meal)) for name in [CLOCK, *meal]}
    return {name: took(furthest, name, book[name]) for name in meal}


def took(furthest, name, entry):
    """Return the least and the most minutes of a dish, by how far dones are at most behind one another."""
    hook, wait = entry
    return (-furthest[name][hook] - wait, furthest[hook][name] - wait)


def blamed(meal, book, seen):
    """Return the ordered list of the least sets of dishes that explain what was seen by other times of theirs."""
    rows = seen_rows(meal, book, seen)
    return least_sets(list(meal), lambda names: can_be(rows + time_rows(loosened(meal, names), book), book))


def loosened(meal, names):
    """Return the bounds of the dishes, where these take any number of minutes from 0 on."""
    return {name: (0, None) if name in names else bounds for name, bounds in meal.dishes().items()}


def can_be(rows, book):
    """Tell whether the dishes can be done at some minutes so that all rows hold."""
    return dones_by(rows, book)[1] is None


def seen_rows(meal, book, seen):
    """Return the rows by which all moments are as seen."""
    check_same(meal, book)
    check_seen(seen, meal.dishes())
    wishes = [(CLOCK, moment, seen[moment]) for moment in seen]
    wishes = wishes + [(moment, CLOCK, -seen[moment]) for moment in seen]
    return [wished_row(wish, book) for wish in wishes]


def check_seen(seen, dishes):
    """Raise BadSeen for the first key that is no moment of a dish or whose value is no integer."""
    for thing in seen:
        if thing == CLOCK or not is_moment(thing, dishes) or not is_integer(seen[thing]):
            raise BadSeen(thing)
