"""Seeking a tree: a right book for a meal, or a reason why there is none."""

from cookcalls.books import Book
from cookcalls.checks import hooks_of, is_order
from cookcalls.hangings import Hanging, leads_to
from cookcalls.judging import pairs_of
from cookcalls.kinds import CLOCK, is_dish, is_index, is_list
from cookcalls.rows import goes_round
from cookcalls.told import allows, hung, in_order, nothing_told, settled_hooks
from cookcalls.ways import dish_of, end_of


def book_for(meal, looks=None):
    """Return a right book that hangs dishes on the clock and the looks alone, None if there is none."""
    found = sought_from_the_top(meal, looks)
    return found if isinstance(found, Book) else None


def reason(meal, looks=None):
    """Return None if there is such a book, else a reason why there is none."""
    found = sought_from_the_top(meal, looks)
    return None if isinstance(found, Book) else found


def sought_from_the_top(meal, looks):
    """Return such a book, or a reason, where nothing is told."""
    hooks = hooks_of(looks, meal.dishes())
    return sought(meal, ranked(meal), hooks, nothing_told(meal))


def ranked(meal):
    """Return the dishes, those first of which most is wished."""
    # Rings are met sooner so, and a ring saves whatever would be told behind it.
    places = [dish_of(moment) for wish in meal.wishes() for moment in wish[:2]]
    places = places + [name for station in meal.stations() for name in station]
    return sorted(meal, key=lambda name: -places.count(name))


def sought(meal, names, hooks, told):
    """Return a right book as is told that hangs the other dishes on the hooks, or a reason why there is none."""
    if told.loop is not None:
        return ("ring", [row[3] for row in told.loop])
    clash = first_clash(meal, told)
    if clash is not None:
        return ordered_book(meal, names, hooks, told, clash)
    name = next_dish(names, told.hooks)
    if name is None:
        return Book.of(Hanging(told.hooks), told.least)
    return hung_book(meal, names, hooks, told, name)


def first_clash(meal, told):
    """Return a station and two settled dishes of it, neither of which comes first by the least sums; else None."""
    for index, station in enumerate(meal.stations()):
        for one, other in pairs_of([name for name in station if name in told.least]):
            if not allows(meal, told, (one, other)) and not allows(meal, told, (other, one)):
                return (index, one, other)
    return None


def ordered_book(meal, names, hooks, told, clash):
    """Return the same, by both orders of two dishes of a station."""
    index, first, later = clash
    one = sought(meal, names, hooks, in_order(meal, told, (first, later)))
    if isinstance(one, Book):
        return one
    other = sought(meal, names, hooks, in_order(meal, told, (later, first)))
    if isinstance(other, Book):
        return other
    return ("order", index, first, later, one, other)


def hung_book(meal, names, hooks, told, name):
    """Return the same, by all that a dish may hang on."""
    parts = {}
    for hook in free_hooks(name, hooks, told.hooks):
        part = sought(meal, names, hooks, hung(meal, told, name, hook))
        if isinstance(part, Book):
            return part
        parts[hook] = part
    return ("hang", name, parts)


def next_dish(names, told_hooks):
    """Return a dish for which nothing is told, None if there is none."""
    # A dish on which others hang comes first: it is told of what it hangs on that settles them.
    ends = [end_of(name, told_hooks) for name in told_hooks]
    for name in [end for end in ends if end != CLOCK] + names:
        if name not in told_hooks:
            return name
    return None


def free_hooks(name, hooks, told_hooks):
    """Return the hooks but the dish itself and those that hang on it, through whatever is told."""
    return [hook for hook in hooks if not leads_to(hook, name, told_hooks)]


def is_reason(meal, looks, thing):
    """Tell of any object whether it is a reason."""
    return explains(thing, meal, hooks_of(looks, meal.dishes()), {}, [])


def explains(thing, meal, hooks, told_hooks, ordered):
    """Tell of any object whether it is a reason under what is told."""
    if not is_list(thing) or len(thing) == 0:
        return False
    if thing[0] == "ring":
        return len(thing) == 2 and goes_round(thing[1], settled_hooks(told_hooks), meal, ordered)
    if thing[0] == "hang":
        return len(thing) == 3 and explains_hooks(thing, meal, hooks, told_hooks, ordered)
    return len(thing) == 6 and thing[0] == "order" and explains_orders(thing, meal, hooks, told_hooks, ordered)


def explains_hooks(thing, meal, hooks, told_hooks, ordered):
    """Tell whether there is a reason for all that a dish may hang on, and for nothing else."""
    kind, name, parts = thing
    if not is_dish(name, meal.dishes()) or name in told_hooks or not isinstance(parts, dict):
        return False
    needed = free_hooks(name, hooks, told_hooks)
    if len(parts) != len(needed):
        return False
    for hook in needed:
        if hook not in parts or not explains(parts[hook], meal, hooks, {**told_hooks, name: hook}, ordered):
            return False
    return True


def explains_orders(thing, meal, hooks, told_hooks, ordered):
    """Tell whether there is a reason for both orders of two dishes of a station."""
    kind, index, first, later, one, other = thing
    if not is_index(index, meal.stations()) or not is_order((first, later), meal.stations()[index]):
        return False
    if not explains(one, meal, hooks, told_hooks, ordered + [(first, later)]):
        return False
    return explains(other, meal, hooks, told_hooks, ordered + [(later, first)])
