"""All errors of the package. They keep copies, so that later changes of a list do not reach them."""

from cookcalls.kinds import copied


class KitchenError(ValueError):
    """The base of all errors of the package."""


class BadDish(KitchenError):
    """This is no name of a dish, is one already, or has no pair (least, most)."""

    def __init__(self, name):
        self.name = copied(name)


class BadWish(KitchenError):
    """What stands here is no wish of the dishes."""

    def __init__(self, index):
        self.index = copied(index)


class BadStation(KitchenError):
    """What stands here is no station of the dishes."""

    def __init__(self, index):
        self.index = copied(index)


class NoWish(KitchenError):
    """The meal has no wish with this index."""

    def __init__(self, index):
        self.index = copied(index)


class NoDish(KitchenError):
    """There is no dish with this name."""

    def __init__(self, name):
        self.name = copied(name)


class Clash(KitchenError):
    """Both meals have a dish with this name."""

    def __init__(self, name):
        self.name = copied(name)


class BadRow(KitchenError):
    """This is no name of a dish, or it hangs on nothing that is there, or has no wait."""

    def __init__(self, name):
        self.name = copied(name)


class Round(KitchenError):
    """These dishes hang on one another round and round."""

    def __init__(self, names):
        self.names = copied(names)


class TooEarly(KitchenError):
    """The dish would start ahead of what it hangs on, or of this minute."""

    def __init__(self, name):
        self.name = copied(name)


class BadTimes(KitchenError):
    """The times have no number of minutes for this dish."""

    def __init__(self, name):
        self.name = copied(name)


class UnlikeHangings(KitchenError):
    """The two books hang their dishes unlike."""


class Unlike(KitchenError):
    """The two have not the same dishes."""


class BadMoment(KitchenError):
    """The thing is no moment of the meal."""

    def __init__(self, thing):
        self.thing = copied(thing)


class BadOrder(KitchenError):
    """What stands here is no order of two dishes."""

    def __init__(self, index):
        self.index = copied(index)


class NoRow(KitchenError):
    """There is no such row."""

    def __init__(self, row):
        self.row = copied(row)


class BadSeen(KitchenError):
    """The thing is no moment of a dish, or was seen at no minute."""

    def __init__(self, thing):
        self.thing = copied(thing)


class BadMinutes(KitchenError):
    """So many minutes cannot pass."""

    def __init__(self, minutes):
        self.minutes = copied(minutes)


class Overdue(KitchenError):
    """The dish would run longer than it takes at most."""

    def __init__(self, name):
        self.name = copied(name)


class NotRunning(KitchenError):
    """The dish does not run."""

    def __init__(self, name):
        self.name = copied(name)


class TooSoon(KitchenError):
    """The dish has run fewer minutes than it takes at least."""

    def __init__(self, name):
        self.name = copied(name)


class Started(KitchenError):
    """The dish has started already."""

    def __init__(self, name):
        self.name = copied(name)


class NothingBack(KitchenError):
    """There is nothing that could be taken back."""


class Refused(KitchenError):
    """The deed with this index cannot be done; error is what it raised, or None."""

    def __init__(self, index, error):
        self.index = copied(index)
        self.error = copied(error)


class BadText(KitchenError):
    """This line of the text, counted from 1, has not the form of its kind."""

    def __init__(self, line):
        self.line = copied(line)
