"""Judging a book: how far its moments may come apart, and whether it keeps all wishes and stations."""

from cookcalls.checks import check_moments, check_same
from cookcalls.kinds import CLOCK
from cookcalls.meals import check_wishes
from cookcalls.moments import EDGES
from cookcalls.raising import raised
from cookcalls.ways import dish_of, spread, times_longer, way_of


def most_behind(meal, book, one, other):
    """Return the most minutes that the moment other comes behind the moment one, over all times."""
    check_same(meal, book)
    check_moments([one, other], meal.dishes())
    apart = spread(one, other, book.hanging().rows(), meal.dishes())
    return sum_of(other, book) - sum_of(one, book) + apart


def sum_of(moment, book):
    """Return the sum of the waits on the way of the moment."""
    return 0 if moment == CLOCK else book.added(dish_of(moment))


def worst_times(meal, book, one, other):
    """Return times in which the moment other comes furthest behind the moment one."""
    check_same(meal, book)
    check_moments([one, other], meal.dishes())
    hooks = book.hanging().rows()
    return times_longer(way_of(one, hooks), way_of(other, hooks), meal.dishes())


def is_right(meal, book):
    """Tell whether the book keeps all wishes and stations of the meal."""
    return fault(meal, book) is None


def slacks(meal, book):
    """Return for each wish by how much its most is more than the moments may come apart."""
    check_same(meal, book)
    return [most - most_behind(meal, book, one, other) for one, other, most in meal.wishes()]


def fault(meal, book):
    """Return the first wish or station that is not kept, with times in which it is not; None if all are."""
    for index, slack in enumerate(slacks(meal, book)):
        if slack < 0:
            one, other, most = meal.wishes()[index]
            return ("wish", index, worst_times(meal, book, one, other))
    for index, station in enumerate(meal.stations()):
        for pair in pairs_of(station):
            times = happens(meal, book, at_once(pair))
            if times is not None:
                return ("station", index, pair, times)
    return None


def pairs_of(names):
    """Return all pairs of ascending names, as Python orders them."""
    ordered = sorted(names)
    return [(one, other) for at, one in enumerate(ordered) for other in ordered[at + 1:]]


def at_once(pair):
    """Return wishes that hold together just if both dishes of the pair are on at once."""
    one, other = pair
    return [(("done", other), ("start", one), -1), (("done", one), ("start", other), -1)]


def orders(meal, book):
    """Return the triples of a station and two of its dishes that come one behind the other in all times."""
    check_same(meal, book)
    found = []
    for index, station in enumerate(meal.stations()):
        for one, other in pairs_of(station):
            for first, later in ((one, other), (other, one)):
                if most_behind(meal, book, ("start", later), ("done", first)) <= 0:
                    found.append((index, first, later))
    return sorted(found)


def happens(meal, book, wishes):
    """Return times of the meal in which all the wishes hold at once, None if there are none."""
    check_same(meal, book)
    check_wishes(wishes, meal.dishes())
    # Counted in minutes at which the dishes are done, each row is about two things alone.
    least, loop = dones_by(time_rows(meal.dishes(), book) + [wished_row(wish, book) for wish in wishes], book)
    if loop is not None:
        return None
    return {name: least[name] - least[book[name][0]] - book[name][1] for name in meal}


def dones_by(rows, book):
    """Return minutes at which the dishes are done that keep the rows and None, or None and a ring of rows."""
    return raised({name: 0 for name in [CLOCK, *book]}, rows)


def time_rows(bounds, book):
    """Return the rows by which each dish takes a number of minutes within its bounds; a most of None is none."""
    rows = []
    for name in bounds:
        hook, wait = book[name]
        least, most = bounds[name]
        rows.append((name, hook, -wait - least, name))
        if most is not None:
            rows.append((hook, name, wait + most, name))
    return rows


def wished_row(wish, book):
    """Return the row of a wish between the minutes at which dishes are done."""
    one, other, most = wish
    start, ahead = anchor(one, book)
    end, later = anchor(other, book)
    return (start, end, most + ahead - later, wish)


def anchor(moment, book):
    """Return the dish, or the clock, by whose done the moment comes, and how long behind it."""
    if moment == CLOCK:
        return (CLOCK, 0)
    edge, name = moment
    return book[name] if edge == EDGES[0] else (name, 0)
