"""Asking for the least number for which there is a right book, if it stands as the most of some wishes.

It begins with the least thinkable number. Each ring that is met asks for as many minutes more as it lacks; whatever is
told behind it has that ring, too, so no less will do there.
"""

from cookcalls.checks import hooks_of
from cookcalls.meals import Meal
from cookcalls.seeking import first_clash, free_hooks, next_dish, ranked
from cookcalls.told import hung, in_order, nothing_told, raised_again


class Question:
    """A meal, the names of the rows in which the number stands, and on what dishes may hang."""

    def __init__(self, meal, asked, looks):
        self.dinner = meal
        self.asked = asked
        self.allowed = hooks_of(looks, meal.dishes())
        self.ranks = ranked(meal)


def least_number(meal, indexes, number, looks):
    """Return the least number, from this one on, for which there is a right book; None if there is none for any."""
    question = Question(meal, [("wish", index) for index in indexes], looks)
    return lesser(question, number, nothing_told(meal_with(question, number)), None)


def meal_with(question, number):
    """Return the meal in which the number stands."""
    meal = question.dinner
    wishes = [(one, other, number if ("wish", index) in question.asked else most)
              for index, (one, other, most) in enumerate(meal.wishes())]
    return Meal(meal.dishes(), wishes, meal.stations())


def lesser(question, number, told, best):
    """Return the least number, from this one on, for which a right book is as is told; the best if that is no more."""
    while told.loop is not None:
        more = asked_by(told.loop, question.asked)
        if more is None:
            return best
        number = number + more
        told = raised_again(told, question.asked, more)
    if best is not None and best <= number:
        return best
    parts = told_next(question, meal_with(question, number), told)
    if parts is None:
        return number
    for part in parts:
        best = lesser(question, number, part, best)
    return best


def asked_by(ring, asked):
    """Return how many minutes more a ring asks for, so that it is none; None if no number helps."""
    many = len([name for start, end, number, name in ring if name in asked])
    if many == 0:
        return None
    # What is lacking, shared among these rows, is rounded up: the sum is below 0, and // rounds down.
    return -(sum([number for start, end, number, name in ring]) // many)


def told_next(question, meal, told):
    """Return all that may be told next, with one of which a right book goes on; None if nothing is left to tell."""
    clash = first_clash(meal, told)
    if clash is not None:
        index, first, later = clash
        return [in_order(meal, told, (first, later)), in_order(meal, told, (later, first))]
    name = next_dish(question.ranks, told.hooks)
    if name is None:
        return None
    return [hung(meal, told, name, hook) for hook in free_hooks(name, question.allowed, told.hooks)]
