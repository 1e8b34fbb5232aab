"""Going through all trees and all orders of a meal one by one: the plain way to seek a right book or a least number."""

import itertools

from cookcalls.hangings import hangings
from cookcalls.meals import Meal, together
from cookcalls.waiting import earliest, row_of
from tests.trying import some_meal, station_pairs


def all_orders(meal):
    """Yield each choice of one order for each two dishes of a station."""
    pairs = sorted({(one, other) for index, one, other in station_pairs(meal)})
    for turned in itertools.product((False, True), repeat=len(pairs)):
        yield [pair[::-1] if turn else pair for pair, turn in zip(pairs, turned)]


def all_suits(meal, looks):
    """Yield all pairs of a hanging on the clock and the looks, and of orders."""
    for hanging in hangings(list(meal), list(meal) if looks is None else looks):
        for ordered in all_orders(meal):
            yield hanging, ordered


def has_book(meal, looks):
    """Tell whether some tree with some orders has waits that suit."""
    return any(earliest(meal, hanging, ordered) is not None for hanging, ordered in all_suits(meal, looks))


def all_looks(names):
    """Yield all lists of looks, fewer ahead of more."""
    for many in range(len(names) + 1):
        for looks in itertools.combinations(sorted(names), many):
            yield list(looks)


def least_of(sets):
    """Return those of the sets no part of which is among them, ordered as the document tells."""
    found = []
    for chosen in sorted({tuple(sorted(one)) for one in sets}, key=lambda one: (len(one), one)):
        if not any(set(part) <= set(chosen) for part in found):
            found.append(chosen)
    return found


def with_most(meal, index, most):
    """Return the meal with another most of a wish."""
    wishes = meal.wishes()
    wishes[index] = (*wishes[index][:2], most)
    return Meal(meal.dishes(), wishes, meal.stations())


def all_rings(rows):
    """Yield all lists of rows (name, from, to, number), each from where another one goes to, none from the same."""
    ways = [[row] for row in rows]
    while ways:
        way = ways.pop()
        if way[-1][2] == way[0][1]:
            yield way
        elif way[-1][2] not in [row[1] for row in way]:
            ways += [[*way, row] for row in rows if row[1] == way[-1][2]]


def rows_of(meal, hanging, ordered):
    """Return all rows as (name, from, to, number)."""
    names = [("wait", name) for name in meal] + [("wish", index) for index in range(len(meal.wishes()))]
    names += [("order", index) for index in range(len(ordered))]
    return [(name, *row_of(meal, hanging, ordered, name)) for name in names]


def least_by_rings(meal, asked, low, looks):
    """Return the least number, from low on, that may stand as the most of all the wishes that are asked about.

    With each tree and each choice of orders it is the greatest of the fractions for which the rings ask, rounded up,
    or there is none if a ring has no such row and a sum below 0.
    """
    for index in asked:
        meal = with_most(meal, index, low)
    found = []
    for hanging, ordered in all_suits(meal, looks):
        wanted = [low]
        for way in all_rings(rows_of(meal, hanging, ordered)):
            lacking = -sum(row[3] for row in way)
            many = len([row for row in way if row[0] in [("wish", index) for index in asked]])
            if many > 0:
                wanted.append(low + -(-lacking // many))
            elif lacking > 0:
                wanted = None
                break
        if wanted is not None:
            found.append(max(wanted))
    return min(found) if found else None


def small_meals(rng, names, many, **limits):
    """Return meals by chance, each second one of which has a right book."""
    found = {True: [], False: []}
    while min(len(meals) for meals in found.values()) < many:
        meal = some_meal(rng, names, **limits)
        some = found[has_book(meal, None)]
        if len(some) < many:
            some.append(meal)
    return [meal for pair in zip(found[True], found[False]) for meal in pair]


def tight_meal(rng, names, longest=6):
    """Return a meal by chance in which calls are often needed: two that share a station are done close together."""
    dishes = {}
    for name in names:
        least = rng.randint(1, longest)
        dishes[name] = (least, rng.choice([least, rng.randint(least, longest)]))
    pairs = [rng.sample(names, 2) for _ in range(rng.randint(1, 3))]
    wished = [wish for pair in pairs for wish in together(pair, rng.randint(1, longest))]
    return Meal(dishes, wished, [rng.sample(names[:3], 2) for _ in range(rng.randint(1, 3))])


def calling_meals(rng, names, many):
    """Return meals by chance for which there is a right book, but none by the clock alone."""
    found = []
    while len(found) < many:
        meal = tight_meal(rng, names)
        if has_book(meal, None) and not has_book(meal, []):
            found.append(meal)
    return found
