"""Bounds: how tight a wish, how soon dishes, and how close together they can surely be."""

from cookcalls.asking import least_number
from cookcalls.checks import check_names
from cookcalls.errors import NoWish
from cookcalls.kinds import is_index
from cookcalls.meals import ready_by, together

ANY = "any"


def least_most(meal, index, looks=None):
    """Return the least most of a wish for which there is a right book, None if for none, "any" if for each."""
    if not is_index(index, meal.wishes()):
        raise NoWish(index)
    below = below_all(meal)
    found = least_number(meal, [index], below, looks)
    return ANY if found == below else found


def below_all(meal):
    """Return a number that is less than any ring of rows of the meal asks for."""
    # A ring goes once at most to each dish and the clock, and a row tells of the times of each dish once at most.
    longest = sum([most for least, most in meal.dishes().values()])
    return -1 - sum([abs(most) for one, other, most in meal.wishes()]) - (len(meal) + 1) * longest


def soonest(meal, names, looks=None):
    """Return the least minute by which dishes are done in all times of some right book, None if there is none."""
    check_names(names, meal.dishes())
    return least_with(meal, ready_by(names, 0), looks)


def closest(meal, names, looks=None):
    """Return the least number of minutes within which dishes are done in all times of some right book, or None."""
    check_names(names, meal.dishes())
    return least_with(meal, together(names, 0), looks)


def least_with(meal, wishes, looks):
    """Return the least number, from 0 on, that may stand in further wishes; None if there is no right book."""
    many = len(meal.wishes())
    return least_number(meal.more(wishes), list(range(many, many + len(wishes))), 0, looks)
