"""The courses of an evening: how far it is, and what the deeds make of it.

No deed changes a course: each one returns a new course and what it tells, or raises its error.
"""

from cookcalls.books import Book, is_entry
from cookcalls.checks import check_dish, check_same
from cookcalls.errors import (
    BadDish, BadMinutes, BadRow, BadWish, KitchenError, NotRunning, Overdue, Refused, Started, TooEarly, TooSoon)
from cookcalls.kinds import CLOCK, is_dish, is_integer, is_list, is_name
from cookcalls.meals import Meal
from cookcalls.moments import is_bounds, is_wish


class Course:
    """The minutes that have passed, the meal and the book, and when dishes started and were done."""

    def __init__(self, passed, dinner, plan, starts, dones):
        self.passed = passed
        self.dinner = dinner
        self.plan = plan
        self.starts = starts
        self.dones = dones


def opened(meal, book):
    """Return the course at minute 0."""
    check_same(meal, book)
    return started_until(Course(0, meal, book, {}, {}), 0)[0]


def due(course, name):
    """Return the minute at which the book wants a dish to start, None if it waits for a call."""
    hook, wait = course.plan[name]
    if hook == CLOCK:
        return wait
    return course.dones[hook] + wait if hook in course.dones else None


def started_until(course, minute):
    """Return the course at this minute, and the ascending pairs (minute, name) of the dishes that start until then."""
    dues = [(due(course, name), name) for name in course.plan if name not in course.starts]
    pairs = sorted([(at, name) for at, name in dues if at is not None and at <= minute])
    fresh = {name: at for at, name in pairs}
    return Course(minute, course.dinner, course.plan, {**course.starts, **fresh}, course.dones), pairs


def is_running(course, name):
    """Tell whether the dish has started and is not done."""
    return name in course.starts and name not in course.dones


def state_of(course, name):
    """Return whether a dish waits, runs or is done, and since when."""
    check_dish(name, course.dinner.dishes())
    if name not in course.starts:
        return ("waits",)
    if name not in course.dones:
        return ("runs", course.starts[name])
    return ("done", course.starts[name], course.dones[name])


def gone(course, minutes):
    """Let minutes pass; tell which dishes started."""
    if not is_integer(minutes) or minutes < 1:
        raise BadMinutes(minutes)
    later, started = started_until(course, course.passed + minutes)
    bounds = later.dinner.dishes()
    for name in bounds:
        if is_running(later, name) and later.passed - later.starts[name] > bounds[name][1]:
            raise Overdue(name)
    return later, started


def called(course, name):
    """Tell that a dish is done; tell which dishes start at once by this."""
    bounds = course.dinner.dishes()
    check_dish(name, bounds)
    if not is_running(course, name):
        raise NotRunning(name)
    if course.passed - course.starts[name] < bounds[name][0]:
        raise TooSoon(name)
    dones = {**course.dones, name: course.passed}
    after, started = started_until(Course(course.passed, course.dinner, course.plan, course.starts, dones),
                                   course.passed)
    return after, [dish for minute, dish in started]


def put_in(course, name, least, most, other, wait):
    """Put a further dish in; tell whether it starts at once."""
    bounds = course.dinner.dishes()
    if not is_name(name) or is_dish(name, bounds) or not is_bounds((least, most)):
        raise BadDish(name)
    return hung_at(course, course.dinner + Meal({name: (least, most)}), name, (other, wait))


def changed(course, name, other, wait):
    """Hang a dish that waits elsewhere or otherwise; tell whether it starts at once."""
    check_dish(name, course.dinner.dishes())
    if name in course.starts:
        raise Started(name)
    return hung_at(course, course.dinner, name, (other, wait))


def hung_at(course, meal, name, entry):
    """Return the course with this meal, whose dish hangs so, and whether the dish starts at once."""
    if not is_entry(entry, course.plan):
        raise BadRow(name)
    rows = course.plan.rows()
    hung = Course(course.passed, meal, Book({**rows, name: entry}), course.starts, course.dones)
    minute = due(hung, name)
    if minute is not None and minute < course.passed:
        raise TooEarly(name)
    after, started = started_until(hung, course.passed)
    return after, len(started) > 0


def wished(course, wish):
    """Put a further wish behind the others."""
    if not is_wish(wish, course.dinner.dishes()):
        raise BadWish(len(course.dinner.wishes()))
    return Course(course.passed, course.dinner.more([wish]), course.plan, course.starts, course.dones), None


ACTIONS = {"go": gone, "call": called, "put": put_in, "change": changed, "wish": wished}
ARGUMENTS = {"go": 1, "call": 1, "put": 5, "change": 3, "wish": 1}


def after_all(course, deeds):
    """Return the course behind all the deeds, one behind the other."""
    for index, deed in enumerate(deeds):
        course = after_one(course, index, deed)
    return course


def after_one(course, index, deed):
    """Return the course behind the deed with this index; Refused if it cannot be done."""
    if not is_deed(deed):
        raise Refused(index, None)
    word, *arguments = deed
    action = ACTIONS[word]
    try:
        later, found = action(course, *arguments)
    except KitchenError as error:
        raise Refused(index, error) from error
    return later


def is_deed(thing):
    """Tell whether the thing is a tuple of the name of a deed and as many things as it takes."""
    if not is_list(thing) or len(thing) == 0 or not isinstance(thing[0], str):
        return False
    return thing[0] in ARGUMENTS and len(thing) == 1 + ARGUMENTS[thing[0]]
