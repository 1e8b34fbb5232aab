"""Meals: dishes with their bounds, wishes and stations; and lists of wishes."""

from cookcalls.checks import check_dish
from cookcalls.errors import BadDish, BadStation, BadWish, Clash, NoWish
from cookcalls.kinds import CLOCK, is_dish, is_index, is_list, is_name
from cookcalls.moments import as_wish, is_bounds, is_station, is_wish


class Meal:
    """Dishes with the minutes that they take, what is wished of them, and their stations."""

    def __init__(self, dishes, wishes=(), stations=()):
        check_dishes(dishes)
        check_wishes(wishes, dishes)
        check_stations(stations, dishes)
        self.bounds = {name: tuple(dishes[name]) for name in sorted(dishes)}
        self.wished = tuple([as_wish(wish) for wish in wishes])
        self.places = tuple([tuple(station) for station in stations])

    def dishes(self):
        """Return the ascending dict from the names to the pairs (least, most)."""
        return dict(self.bounds)

    def wishes(self):
        """Return the list of the wishes, in the order in which they were given."""
        return list(self.wished)

    def stations(self):
        """Return the list of the stations, in the order in which they were given."""
        return list(self.places)

    def more(self, wishes):
        """Return the meal with further wishes at the end."""
        # Checked here already, so that the index in the error counts the further wishes alone.
        check_wishes(wishes, self.bounds)
        return Meal(self.bounds, [*self.wished, *wishes], self.places)

    def less(self, index):
        """Return the meal without the wish with this index."""
        if not is_index(index, self.wished):
            raise NoWish(index)
        return Meal(self.bounds, self.wished[:index] + self.wished[index + 1:], self.places)

    def taking(self, name, least, most):
        """Return the meal in which the dish takes these bounds in place of its own."""
        check_dish(name, self.bounds)
        return Meal({**self.bounds, name: (least, most)}, self.wished, self.places)

    def __len__(self):
        return len(self.bounds)

    def __contains__(self, thing):
        return is_dish(thing, self.bounds)

    def __iter__(self):
        return iter(self.bounds)

    def __add__(self, other):
        for name in self.bounds:
            if name in other.bounds:
                raise Clash(name)
        dishes = {**self.bounds, **other.bounds}
        return Meal(dishes, self.wished + other.wished, self.places + other.places)

    def __eq__(self, other):
        return (isinstance(other, Meal) and self.bounds == other.bounds
                and self.wished == other.wished and self.places == other.places)


def check_dishes(dishes):
    """Raise BadDish for the first key that is no name or has no bounds."""
    for name in dishes:
        if not is_name(name) or not is_bounds(dishes[name]):
            raise BadDish(name)


def check_wishes(wishes, dishes):
    """Raise BadWish for the first thing that is no wish of the dishes."""
    if not is_list(wishes):
        raise BadWish(0)
    for index, thing in enumerate(wishes):
        if not is_wish(thing, dishes):
            raise BadWish(index)


def check_stations(stations, dishes):
    """Raise BadStation for the first thing that is no station of the dishes."""
    if not is_list(stations):
        raise BadStation(0)
    for index, thing in enumerate(stations):
        if not is_station(thing, dishes):
            raise BadStation(index)


def together(names, most):
    """Return the wishes that all these dishes are done within so many minutes."""
    wishes = []
    for at, earlier in enumerate(names):
        for later in names[at + 1:]:
            wishes.append((("done", earlier), ("done", later), most))
            wishes.append((("done", later), ("done", earlier), most))
    return wishes


def keeping(name, others, most):
    """Return the wishes that the dish keeps for so long until each of the others is done."""
    return [(("done", name), ("done", other), most) for other in others]


def ready_by(names, minute):
    """Return the wishes that these dishes are done by this minute."""
    return [(CLOCK, ("done", name), minute) for name in names]


def behind(name, other, least):
    """Return the wish, in a list, that the dish starts at least so long behind the done of the other."""
    return [(("start", name), ("done", other), -least)]
