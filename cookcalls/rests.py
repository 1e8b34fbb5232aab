"""The rest of an evening: what is to come, as a meal and a book of its own."""

from cookcalls.books import Book
from cookcalls.courses import is_running
from cookcalls.judging import most_behind
from cookcalls.kinds import CLOCK
from cookcalls.seeking import book_for


def rest_of(course):
    """Return the meal and the book of what is to come."""
    meal = course.dinner
    for name in course.starts:
        least, most = bounds_now(course, name)
        meal = meal.taking(name, least, most)
    entries = {name: (CLOCK, course.starts[name]) for name in course.starts}
    return meal, Book({**course.plan.rows(), **entries})


def bounds_now(course, name):
    """Return the least and the most minutes that a dish that has started may take, as far as it is known now."""
    least, most = course.dinner.dishes()[name]
    if is_running(course, name):
        return max(least, course.passed - course.starts[name]), most
    took = course.dones[name] - course.starts[name]
    return took, took


def verdict(meal, book, wish):
    """Return whether a wish holds in all times, in none or in some."""
    one, other, most = wish
    if most_behind(meal, book, one, other) <= most:
        return "kept"
    # The moment other is least behind the moment one where one is most behind other.
    return "broken" if -most_behind(meal, book, other, one) > most else "open"


def mended_book(course, looks):
    """Return a right book for the rest in which what has started stays and all else starts from now on, or None."""
    wishes = [wish for name in course.dinner for wish in start_wishes(course, name)]
    return book_for(rest_of(course)[0].more(wishes), looks)


def start_wishes(course, name):
    """Return the wishes that a dish starts when it did or, if it waits, not ahead of this minute."""
    start = ("start", name)
    if name not in course.starts:
        return [(start, CLOCK, -course.passed)]
    return [(start, CLOCK, -course.starts[name]), (CLOCK, start, course.starts[name])]
