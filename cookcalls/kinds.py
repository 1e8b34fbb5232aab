"""The kinds of values that the document tells, asked of any objects."""

CLOCK = "clock"
LETTERS = "abcdefghijklmnopqrstuvwxyz"
LONGEST_NAME = 8


def is_integer(thing):
    """Tell whether the thing is an int that is no truth."""
    return isinstance(thing, int) and not isinstance(thing, bool)


def is_list(thing):
    """Tell whether the thing is a list, or a tuple, which may stand for one."""
    return isinstance(thing, (list, tuple))


def is_name(thing):
    """Tell whether the thing may be the name of a dish."""
    if not isinstance(thing, str) or thing == CLOCK:
        return False
    return 1 <= len(thing) <= LONGEST_NAME and all([sign in LETTERS for sign in thing])


def is_dish(thing, dishes):
    """Tell whether the thing is a name among the keys of a dict."""
    # Only a string is looked up: other objects may be such as no dict can look up.
    return isinstance(thing, str) and thing in dishes


def is_index(thing, rows):
    """Tell whether the thing is an index of a list, counted from 0 on."""
    return is_integer(thing) and 0 <= thing < len(rows)


def alike(one, other):
    """Tell whether two objects are the same, where a truth is no integer."""
    if isinstance(one, tuple) and isinstance(other, tuple):
        if len(one) != len(other):
            return False
        return all([alike(mine, yours) for mine, yours in zip(one, other)])
    return isinstance(one, bool) == isinstance(other, bool) and one == other


def copied(thing):
    """Return the thing with new lists and dicts at every depth."""
    if isinstance(thing, list):
        return [copied(part) for part in thing]
    if isinstance(thing, tuple):
        return tuple([copied(part) for part in thing])
    if isinstance(thing, dict):
        return {key: copied(thing[key]) for key in thing}
    return thing
