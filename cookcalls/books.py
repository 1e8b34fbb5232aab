"""Books: when each dish is started, so many minutes behind the clock or the call of another dish."""

from cookcalls.checks import check_dish
from cookcalls.errors import BadRow, BadTimes, TooEarly, UnlikeHangings
from cookcalls.hangings import Hanging, check_rounds, is_hook
from cookcalls.kinds import CLOCK, is_integer, is_list, is_name
from cookcalls.ways import way_up


class Book:
    """A hanging with the minutes that each dish waits behind what it hangs on."""

    def __init__(self, rows):
        check_entries(rows)
        check_rounds({name: rows[name][0] for name in rows})
        self.hooks = {name: rows[name][0] for name in sorted(rows)}
        self.waits = {name: rows[name][1] for name in self.hooks}

    @staticmethod
    def of(hanging, sums):
        """Return the book of the hanging in which the dishes have these sums."""
        hooks = hanging.rows()
        waits = {name: sums[name] - sum_ahead(hooks[name], sums) for name in hooks}
        check_waits(waits)
        return Book({name: (hooks[name], waits[name]) for name in hooks})

    def rows(self):
        """Return the ascending dict from the dishes to the pairs of what they hang on and the wait."""
        return {name: (self.hooks[name], self.waits[name]) for name in self.hooks}

    def hanging(self):
        """Return the hanging of the book."""
        return Hanging(self.hooks)

    def wait(self, name):
        """Return the minutes that the dish waits behind what it hangs on."""
        check_dish(name, self.hooks)
        return self.waits[name]

    def added(self, name):
        """Return the sum of the wait of the dish and those of all dishes on its way."""
        check_dish(name, self.hooks)
        return self.waits[name] + sum([self.waits[dish] for dish in way_up(name, self.hooks)])

    def __call__(self, times):
        check_times(times, self.hooks)
        starts = {name: self.added(name) + sum([times[dish] for dish in way_up(name, self.hooks)])
                  for name in self.hooks}
        return {name: (starts[name], starts[name] + times[name]) for name in starts}

    def __getitem__(self, at):
        check_dish(at, self.hooks)
        return (self.hooks[at], self.waits[at])

    def __iter__(self):
        return iter(self.hooks)

    def __add__(self, other):
        waits = {name: self.waits[name] + (other if self.hooks[name] == CLOCK else 0) for name in self.hooks}
        check_waits(waits)
        return Book({name: (self.hooks[name], waits[name]) for name in waits})

    def __and__(self, other):
        check_hangings(self, other)
        return Book.of(self.hanging(), {name: min(self.added(name), other.added(name)) for name in self.hooks})

    def __or__(self, other):
        check_hangings(self, other)
        return Book.of(self.hanging(), {name: max(self.added(name), other.added(name)) for name in self.hooks})

    def __eq__(self, other):
        return isinstance(other, Book) and self.hooks == other.hooks and self.waits == other.waits


def check_entries(rows):
    """Raise BadRow for the first key that is no name, or has no pair of what it hangs on and a wait."""
    for name in rows:
        if not is_name(name) or not is_entry(rows[name], rows):
            raise BadRow(name)


def is_entry(thing, rows):
    """Tell whether the thing is a pair of the clock or a key of the rows, and a wait."""
    if not is_list(thing) or len(thing) != 2:
        return False
    hook, wait = thing
    return is_hook(hook, rows) and is_wait(wait)


def is_wait(thing):
    """Tell whether the thing is an integer from 0 on."""
    return is_integer(thing) and thing >= 0


def check_waits(waits):
    """Raise TooEarly for the least name that has a wait below 0."""
    for name in sorted(waits):
        if waits[name] < 0:
            raise TooEarly(name)


def check_times(times, hooks):
    """Raise BadTimes for the least name of a dish that has no integer from 0 on."""
    for name in sorted(hooks):
        if name not in times or not is_wait(times[name]):
            raise BadTimes(name)


def check_hangings(one, other):
    """Raise UnlikeHangings if the books hang their dishes unlike."""
    if one.hooks != other.hooks:
        raise UnlikeHangings()


def sum_ahead(hook, sums):
    """Return the sum of what a dish hangs on."""
    # The clock's is 0, whatever further keys the sums have.
    return 0 if hook == CLOCK else sums[hook]
