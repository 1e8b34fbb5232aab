"""Evenings: a meal led by its book, call by call."""

from cookcalls.courses import after_all, called, changed, gone, opened, put_in, state_of, wished
from cookcalls.errors import NothingBack
from cookcalls.rests import mended_book, rest_of, verdict


class Evening:
    """The course of an evening, and all courses to which it can be taken back."""

    def __init__(self, meal, book):
        self.course = opened(meal, book)
        self.past = []

    def minute(self):
        """Return the minute."""
        return self.course.passed

    def state(self, name):
        """Return ("waits",), ("runs", start) or ("done", start, done) of a dish."""
        return state_of(self.course, name)

    def book(self):
        """Return the book as it is now."""
        return self.course.plan

    def meal(self):
        """Return the meal as it is now."""
        return self.course.dinner

    def go(self, minutes):
        """Let minutes pass, and return the ascending pairs (minute, name) of the dishes that started."""
        return self.follow(gone(self.course, minutes))

    def call(self, name):
        """Tell that a dish is done, and return the ascending list of the dishes that start at once by this."""
        return self.follow(called(self.course, name))

    def put(self, name, least, most, other, wait):
        """Put a further dish in, and return whether it starts at once."""
        return self.follow(put_in(self.course, name, least, most, other, wait))

    def change(self, name, other, wait):
        """Hang a dish that waits elsewhere or otherwise, and return whether it starts at once."""
        return self.follow(changed(self.course, name, other, wait))

    def wish(self, wish):
        """Put a further wish behind the others."""
        return self.follow(wished(self.course, wish))

    def follow(self, deed):
        """Go on with the course behind a deed, and return what the deed tells."""
        course, found = deed
        self.past.append(self.course)
        self.course = course
        return found

    def undo(self):
        """Take the last deed back that is not taken back."""
        if len(self.past) == 0:
            raise NothingBack()
        self.course = self.past.pop()

    def several(self, deeds):
        """Do all these deeds as one, or none of them."""
        course = after_all(self.course, deeds)
        if len(deeds) > 0:
            self.follow((course, None))

    def rest(self):
        """Return the meal and the book of what is to come."""
        return rest_of(self.course)

    def verdicts(self):
        """Return for each wish whether it is kept, broken or open."""
        meal, book = rest_of(self.course)
        return [verdict(meal, book, wish) for wish in meal.wishes()]

    def mended(self, looks=None):
        """Return a right book for the rest in which what has started stays and all else starts from now on, or None."""
        return mended_book(self.course, looks)
