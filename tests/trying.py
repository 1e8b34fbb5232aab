"""Going through all times and all books of small meals one by one, without anything of the program but meals.

Rows are here the rows of a book: a dict from the dishes to pairs of what they hang on and how long they wait.
"""

import itertools

from cookcalls.meals import Meal


def all_times(meal):
    """Yield all times of a meal."""
    dishes = meal.dishes()
    for taken in itertools.product(*[range(least, most + 1) for least, most in dishes.values()]):
        yield dict(zip(dishes, taken))


def minute(rows, times, moment):
    """Return the minute at which a moment comes."""
    if moment == "clock":
        return 0
    edge, name = moment
    hook, wait = rows[name]
    start = wait + (0 if hook == "clock" else minute(rows, times, ("done", hook)))
    return start + (times[name] if edge == "done" else 0)


def behind_by(rows, times, one, other):
    """Return how many minutes the moment other comes behind the moment one."""
    return minute(rows, times, other) - minute(rows, times, one)


def holds(rows, times, wish):
    one, other, most = wish
    return behind_by(rows, times, one, other) <= most


def at_once(rows, times, one, other):
    """Tell whether each of two dishes starts ahead of the other one's done."""
    return all(behind_by(rows, times, ("start", first), ("done", second)) > 0
               for first, second in ((one, other), (other, one)))


def is_first(meal, rows, first, later):
    """Tell whether in all times the start of later is not ahead of the done of first."""
    return all(behind_by(rows, times, ("start", later), ("done", first)) <= 0 for times in all_times(meal))


def station_pairs(meal):
    """Yield the triples of the index of a station and two ascending dishes of it."""
    for index, station in enumerate(meal.stations()):
        for one, other in itertools.combinations(sorted(station), 2):
            yield index, one, other


def suits(meal, rows, orders=()):
    """Tell whether the rows keep all wishes and orders in all times."""
    wishes = meal.wishes() + [(("start", later), ("done", first), 0) for first, later in orders]
    return all(holds(rows, times, wish) for times in all_times(meal) for wish in wishes)


def right(meal, rows):
    """Tell whether the rows keep all wishes and stations in all times."""
    pairs = list(station_pairs(meal))
    return suits(meal, rows) and not any(at_once(rows, times, one, other)
                                         for times in all_times(meal) for index, one, other in pairs)


def all_hooks(names, looks):
    """Yield each way to hang the names on the clock or the looks without a round."""
    for hooks in itertools.product(["clock", *sorted(looks)], repeat=len(names)):
        hung = dict(zip(names, hooks))
        if all(leads_to_clock(name, hung) for name in hung):
            yield hung


def leads_to_clock(name, hooks):
    """Tell whether the hooks lead the dish to the clock, as far as they know."""
    seen = set()
    while name in hooks and name not in seen:
        seen.add(name)
        name = hooks[name]
    return name == "clock"


def all_rows(hooks, top):
    """Yield the rows of all books that hang so and in which no dish waits longer than the top."""
    for waits in itertools.product(range(top + 1), repeat=len(hooks)):
        yield {name: (hooks[name], wait) for name, wait in zip(hooks, waits)}


def sums_of(rows):
    """Return the sums of the waits: the starts, if no dish took any time."""
    return {name: minute(rows, dict.fromkeys(rows, 0), ("start", name)) for name in rows}


def some_rows(rng, names, top):
    """Return rows by chance."""
    hooks = {}
    for name in rng.sample(names, len(names)):
        hooks[name] = rng.choice(["clock", *hooks])
    return {name: (hooks[name], rng.randint(0, top)) for name in names}


def some_moment(rng, names):
    moments = [(edge, name) for edge in ("start", "done") for name in names]
    return rng.choice(["clock", *moments])


def some_meal(rng, names, longest=3, wishes=5, stations=2, most=6):
    """Return a meal by chance, of dishes that take few minutes, with at most so many wishes and stations."""
    dishes = {}
    for name in names:
        least = rng.randint(1, longest)
        dishes[name] = (least, rng.randint(least, longest))
    wished = [(some_moment(rng, names), some_moment(rng, names), rng.randint(-most, most))
              for _ in range(rng.randint(0, wishes))]
    places = []
    if len(names) > 1:
        standing = rng.sample(names, min(3, len(names)))
        places = [rng.sample(standing, rng.randint(2, len(standing))) for _ in range(rng.randint(0, stations))]
    return Meal(dishes, wished, places)
