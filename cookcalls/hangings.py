"""Hangings: on what each dish hangs, the clock or the call of one other dish."""

from cookcalls.checks import check_dish
from cookcalls.errors import BadRow, Round
from cookcalls.kinds import CLOCK, alike, is_name
from cookcalls.ways import end_of, way_up


class Hanging:
    """A tree that tells on what each dish hangs."""

    def __init__(self, rows):
        check_rows(rows)
        check_rounds(rows)
        self.hooks = {name: rows[name] for name in sorted(rows)}

    def rows(self):
        """Return the ascending dict from the dishes to what they hang on."""
        return dict(self.hooks)

    def dishes(self):
        """Return the ascending list of the dishes."""
        return list(self.hooks)

    def way(self, name):
        """Return the list of the dishes whose calls are on the way to the start of the dish."""
        check_dish(name, self.hooks)
        return way_up(name, self.hooks)

    def looks(self):
        """Return the ascending list of the dishes on which others hang."""
        hooks = list(self.hooks.values())
        return [name for name in self.hooks if name in hooks]

    def __iter__(self):
        return iter(self.hooks)

    def __eq__(self, other):
        return isinstance(other, Hanging) and self.hooks == other.hooks


def check_rows(rows):
    """Raise BadRow for the first key that is no name or hangs on nothing that is there."""
    for name in rows:
        if not is_name(name) or not is_hook(rows[name], rows):
            raise BadRow(name)


def is_hook(thing, rows):
    """Tell whether the thing is the clock or a key of the rows."""
    # Compared, not looked up: the thing may be such as no dict can look up.
    return thing == CLOCK or any([alike(thing, key) for key in rows])


def check_rounds(hooks):
    """Raise Round, beginning with the least name that stands in any round."""
    for name in sorted(hooks):
        names = round_from(name, hooks)
        if names:
            raise Round(names)


def round_from(name, hooks):
    """Return the dishes from this one on round to itself, none if it stands in no round."""
    names = [name]
    hook = hooks[name]
    # The way may end in a round without this dish, so it is not followed for ever.
    while hook != CLOCK and hook != name and len(names) < len(hooks):
        names.append(hook)
        hook = hooks[hook]
    return names if hook == name else []


def hangings(names, looks):
    """Yield each hanging once in which the names hang on the clock or on looks alone."""
    ordered = sorted(names)
    hooks = [CLOCK] + [name for name in ordered if name in looks]
    for rows in grown_rows({}, ordered, hooks):
        yield Hanging(rows)


def grown_rows(rows, names, hooks):
    """Yield each way to hang the names that the rows do not hang yet, without a round."""
    if len(rows) == len(names):
        yield rows
        return
    name = names[len(rows)]
    for hook in hooks:
        if not leads_to(hook, name, rows):
            longer = {**rows, name: hook}
            yield from grown_rows(longer, names, hooks)


def leads_to(hook, name, rows):
    """Tell whether the way up from the hook, as far as the rows know it, comes to the name."""
    # The rows do not hang the name yet, so the way ends there if it comes to it.
    return end_of(hook, rows) == name
