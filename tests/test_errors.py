"""Points 3 and 4: the errors, their bases, their attributes, and what they may be made of."""

import inspect
import unittest

from cookcalls import errors
from tests.things import any_objects

ATTRIBUTES = {
    "BadDish": ("name",), "BadWish": ("index",), "BadStation": ("index",), "NoWish": ("index",),
    "NoDish": ("name",), "Clash": ("name",), "BadRow": ("name",), "Round": ("names",),
    "TooEarly": ("name",), "BadTimes": ("name",), "UnlikeHangings": (), "Unlike": (),
    "BadMoment": ("thing",), "BadOrder": ("index",), "NoRow": ("row",), "BadSeen": ("thing",),
    "BadMinutes": ("minutes",), "Overdue": ("name",), "NotRunning": ("name",), "TooSoon": ("name",),
    "Started": ("name",), "NothingBack": (), "Refused": ("index", "error"), "BadText": ("line",),
}


def with_one_attribute():
    return [(getattr(errors, word), names[0]) for word, names in ATTRIBUTES.items() if len(names) == 1]


class Bases(unittest.TestCase):
    def test_kitchen_error_is_directly_below_value_error(self):
        self.assertEqual(errors.KitchenError.__bases__, (ValueError,))

    def test_each_error_is_directly_below_kitchen_error(self):
        for word in ATTRIBUTES:
            self.assertEqual(getattr(errors, word).__bases__, (errors.KitchenError,), word)

    def test_there_are_no_other_errors(self):
        classes = [word for word, thing in vars(errors).items() if inspect.isclass(thing)]
        self.assertEqual(sorted(classes), sorted(["KitchenError", *ATTRIBUTES]))

    def test_each_is_defined_in_this_file(self):
        for word in ["KitchenError", *ATTRIBUTES]:
            self.assertEqual(getattr(errors, word).__module__, "cookcalls.errors", word)


class Attributes(unittest.TestCase):
    def test_names_in_the_interface(self):
        for word, names in ATTRIBUTES.items():
            if names:
                found = list(inspect.signature(getattr(errors, word)).parameters)
                self.assertEqual(found, list(names), word)

    def test_any_object_by_place_and_by_name(self):
        for error, attribute in with_one_attribute():
            for mine, yours in zip(any_objects(), any_objects()):
                # repr tells a truth from an integer and a list from a tuple, == does not.
                self.assertEqual(repr(getattr(error(mine), attribute)), repr(yours))
                self.assertEqual(repr(getattr(error(**{attribute: mine}), attribute)), repr(yours))

    def test_two_attributes(self):
        cause = errors.NoDish("soup")
        refused = errors.Refused(3, cause)
        self.assertEqual(refused.index, 3)
        self.assertIs(refused.error, cause)
        refused = errors.Refused(error=None, index=0)
        self.assertEqual((refused.index, refused.error), (0, None))
        for thing in any_objects():
            refused = errors.Refused(thing, thing)
            self.assertEqual((refused.index, refused.error), (thing, thing))

    def test_no_attributes(self):
        for error in (errors.Unlike, errors.UnlikeHangings, errors.NothingBack):
            with self.assertRaises(errors.KitchenError):
                raise error()

    def test_all_can_be_raised_and_caught_as_value_errors(self):
        for error, attribute in with_one_attribute():
            with self.assertRaises(ValueError) as caught:
                raise error(["rice", 1])
            self.assertEqual(getattr(caught.exception, attribute), ["rice", 1])

    def test_later_changes_have_no_effect(self):
        for error, attribute in with_one_attribute():
            things = [["rice"], {"fish": [5, 9]}, ([1],)]
            made = error(things)
            things[0].append("fish")
            things[1]["fish"].append(3)
            things[1]["rice"] = 1
            things[2][0].clear()
            things.append(4)
            self.assertEqual(getattr(made, attribute), [["rice"], {"fish": [5, 9]}, ([1],)])
        thing = [1]
        refused = errors.Refused(thing, thing)
        thing.append(2)
        self.assertEqual((refused.index, refused.error), ([1], [1]))


if __name__ == "__main__":
    unittest.main()
