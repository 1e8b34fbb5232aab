"""The least sets of some things that do something, where more things do it as well."""


def least_sets(things, does):
    """Return the ordered list of all sets, as tuples, that do it and no part of which does.

    The things are ascending, and a set that has a part which does it must do it, too.
    """
    found = []
    for many in range(len(things) + 1):
        for chosen in sets_of(things, many):
            if not has_part(chosen, found) and does(chosen):
                found.append(chosen)
    return found


def sets_of(things, many):
    """Return all sets of so many of the things, as tuples, in the order in which Python orders these."""
    if many == 0:
        return [()]
    return [(thing, *rest) for at, thing in enumerate(things) for rest in sets_of(things[at + 1:], many - 1)]


def has_part(chosen, sets):
    """Tell whether one of the sets is a part of what is chosen."""
    return any([all([thing in chosen for thing in part]) for part in sets])
