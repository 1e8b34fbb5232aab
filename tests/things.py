"""Objects of all the kinds of point 3, made anew at each call."""


def nested(depth, made):
    """Return a thing that is nested so deep, by the function that puts one thing into another."""
    thing = made("rice")
    for _ in range(depth - 1):
        thing = made(thing)
    return thing


def any_keys():
    """Return things that a dict can have as keys and that are names of no dish in these tests."""
    return [
        0, 1, -1, 5, 24, 10 ** 9, True, False, None,
        "", " ", "clock", "Rice", "RICE", "rice ", "ri ce", "rice1", "r-e", "ninechars", "r\n", "\u00e9", "\u0131",
        (), ("rice",), ("start", "rice"), (1, 2), (("start", "rice"), "clock", 5), nested(8, lambda thing: (thing,)),
    ]


def any_objects():
    """Return things of all kinds, none of which is a name, a wish or a station of the tests' dishes."""
    return any_keys() + [
        [], {}, [1], [1, 2], ["rice"], {"rice": 1}, {1: [2]}, {(1, 2): None}, ["start", "rice"], ("start", ["rice"]),
        [[]], ((),), [{}], [None, True], ({"fish": (5, 9)},), [0, [1, (2, {"three": [4]})]],
        nested(40, lambda thing: [thing]), nested(40, lambda thing: (thing, 1)),
        nested(40, lambda thing: {"deep": thing}),
    ]
