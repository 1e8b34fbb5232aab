"""Point 47: the example of the document."""

import unittest

from cookcalls.books import Book
from cookcalls.bounds import closest
from cookcalls.calls import least_looks
from cookcalls.hangings import Hanging
from cookcalls.judging import is_right
from cookcalls.meals import Meal, together
from cookcalls.waiting import earliest
from tests.trying import all_times, behind_by, minute


class Example(unittest.TestCase):
    def setUp(self):
        self.meal = Meal({"rice": (10, 12), "fish": (5, 9)}, together(["rice", "fish"], 4))

    def test_both_by_the_clock(self):
        book = earliest(self.meal, Hanging({"rice": "clock", "fish": "clock"}))
        self.assertEqual(book, Book({"fish": ("clock", 3), "rice": ("clock", 0)}))
        self.assertEqual(self.dones(book, "fish"), list(range(8, 13)))
        self.assertEqual(self.dones(book, "rice"), [10, 11, 12])

    def test_how_close_together(self):
        self.assertEqual(closest(self.meal, ["rice", "fish"]), 3)
        book = Book({"fish": ("clock", 4), "rice": ("clock", 0)})
        self.assertEqual(self.dones(book, "fish"), list(range(9, 14)))
        self.assertTrue(is_right(self.meal.more(together(["rice", "fish"], 3)), book))
        apart = [behind_by(book.rows(), times, ("done", "rice"), ("done", "fish")) for times in all_times(self.meal)]
        self.assertEqual((min(apart), max(apart)), (-3, 3))
        self.assertFalse(is_right(self.meal.more(together(["rice", "fish"], 2)), book))

    def test_by_no_call_sooner(self):
        self.assertEqual(least_looks(self.meal), [()])
        for looks in ([], ["fish"], ["rice"], ["rice", "fish"], None):
            self.assertEqual(closest(self.meal, ["rice", "fish"], looks), 3)

    def dones(self, book, name):
        return sorted({minute(book.rows(), times, ("done", name)) for times in all_times(self.meal)})


if __name__ == "__main__":
    unittest.main()
