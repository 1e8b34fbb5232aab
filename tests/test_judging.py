"""Points 16 to 22: how far moments come apart, what a book keeps, and in which times something happens."""

import itertools
import random
import unittest

from cookcalls.books import Book
from cookcalls.errors import BadMoment, BadWish, Unlike
from cookcalls.judging import fault, happens, is_right, most_behind, orders, slacks, worst_times
from cookcalls.meals import Meal, behind, ready_by, together
from tests.things import any_objects
from tests.trying import all_times, at_once, behind_by, holds, is_first, right, some_meal, some_rows, station_pairs

NAMES = ["fish", "rice", "tea"]
MOMENTS = ["clock"] + [(edge, name) for edge in ("start", "done") for name in NAMES]
MEAL = Meal({"rice": (10, 12), "fish": (5, 9), "tea": (3, 3)}, together(["rice", "fish"], 4), [["tea", "fish"]])
BOOK = Book({"rice": ("clock", 0), "fish": ("clock", 3), "tea": ("rice", 1)})
TIMES = {"fish": (5, 9), "rice": (10, 12), "tea": (3, 3)}


def some_cases(seed, many, names=NAMES, **limits):
    """Yield meals and rows of their dishes by chance."""
    rng = random.Random(seed)
    for _ in range(many):
        meal = some_meal(rng, names, **limits)
        yield meal, some_rows(rng, list(meal), 5)


class UnlikeDishes(unittest.TestCase):
    def test_unlike_ahead_of_all_else(self):
        for rows in ({}, {"rice": ("clock", 0)}, {"rice": ("clock", 0), "fish": ("clock", 0), "pie": ("clock", 0)},
                     {**BOOK.rows(), "zest": ("clock", 0)}):
            for deed in (lambda book: most_behind(MEAL, book, 5, None), lambda book: worst_times(MEAL, book, [], {}),
                         lambda book: is_right(MEAL, book), lambda book: slacks(MEAL, book),
                         lambda book: fault(MEAL, book), lambda book: orders(MEAL, book),
                         lambda book: happens(MEAL, book, 7), lambda book: happens(MEAL, book, [])):
                self.assertRaises(Unlike, deed, Book(rows))

    def test_unlike_also_where_nothing_is_wished(self):
        for deed in (is_right, slacks, fault, orders):
            self.assertRaises(Unlike, deed, Meal({}), BOOK)
            self.assertRaises(Unlike, deed, Meal({"tea": (1, 2)}), Book({"rice": ("clock", 0)}))


class MostBehind(unittest.TestCase):
    def test_what_is_on_both_ways_cancels(self):
        for one, other, most in (
                ("clock", ("start", "rice"), 0), ("clock", ("done", "rice"), 12), (("done", "rice"), "clock", -10),
                ("clock", ("done", "fish"), 12), (("done", "fish"), ("done", "rice"), 4),
                (("done", "rice"), ("done", "fish"), 2), (("done", "rice"), ("start", "tea"), 1),
                (("start", "tea"), ("done", "rice"), -1), (("start", "tea"), ("start", "rice"), -11),
                (("start", "rice"), ("done", "tea"), 16), (("done", "fish"), ("done", "tea"), 8),
                (("start", "fish"), ("done", "fish"), 9), (("done", "fish"), ("start", "fish"), -5)):
            self.assertEqual(most_behind(MEAL, BOOK, one, other), most, (one, other))
            self.assertEqual(most_behind(MEAL, BOOK, list(one) if one != "clock" else one,
                                         list(other) if other != "clock" else other), most)

    def test_the_same_moment_twice(self):
        for moment in MOMENTS:
            self.assertEqual(most_behind(MEAL, BOOK, moment, moment), 0)
            self.assertEqual(worst_times(MEAL, BOOK, moment, moment), {"fish": 5, "rice": 10, "tea": 3})

    def test_worst_times(self):
        for one, other, times in (
                ("clock", ("done", "rice"), (5, 12, 3)), (("done", "rice"), "clock", (5, 10, 3)),
                (("done", "fish"), ("done", "tea"), (5, 12, 3)), (("done", "tea"), ("done", "fish"), (9, 10, 3)),
                (("done", "rice"), ("done", "tea"), (5, 10, 3)), (("start", "fish"), ("done", "rice"), (5, 12, 3)),
                (["start", "fish"], ["done", "rice"], (5, 12, 3))):
            found = worst_times(MEAL, BOOK, one, other)
            self.assertEqual(found, dict(zip(NAMES, times)), (one, other))
            self.assertEqual(list(found), NAMES)

    def test_against_all_times(self):
        for meal, rows in some_cases(18, 60):
            book = Book(rows)
            for one, other in itertools.product(["clock", *itertools.product(("start", "done"), meal)], repeat=2):
                most = max(behind_by(rows, times, one, other) for times in all_times(meal))
                self.assertEqual(most_behind(meal, book, one, other), most)
                worst = worst_times(meal, book, one, other)
                self.assertIn(worst, list(all_times(meal)))
                self.assertEqual(behind_by(rows, worst, one, other), most)
                yours = self.way(rows, other) - self.way(rows, one)
                self.assertEqual(worst, {name: meal.dishes()[name][name in yours] for name in meal})

    def way(self, rows, moment):
        if moment == "clock":
            return set()
        hook = rows[moment[1]][0]
        above = set() if hook == "clock" else self.way(rows, ("done", hook))
        return above | {moment[1]} if moment[0] == "done" else above

    def test_moments_that_are_none(self):
        wrong = any_objects() + ["rice", ("start", "pie"), ("done", "clock"), ("begin", "rice"), ("start",),
                                 ("start", "rice", 0), ("rice", "start"), ("Start", "rice"), "start", {"start": "rice"},
                                 (("start", "rice"),), ("start", ("rice",)), ("start", ["rice"]), ("start", True)]
        known = ["clock", ("start", "rice"), ["start", "rice"]]
        for function in (most_behind, worst_times):
            for thing in wrong:
                if thing in known:
                    continue
                for one, other in ((thing, "clock"), ("clock", thing), (thing, ("start", "pie")), (thing, None)):
                    with self.assertRaises(BadMoment) as caught:
                        function(MEAL, BOOK, one, other)
                    self.assertEqual(repr(caught.exception.thing), repr(thing))

    def test_arguments_by_name_and_no_dishes(self):
        self.assertEqual(most_behind(meal=MEAL, book=BOOK, one="clock", other=("done", "tea")), 16)
        self.assertEqual(worst_times(meal=MEAL, book=BOOK, one="clock", other=("done", "tea")),
                         {"fish": 5, "rice": 12, "tea": 3})
        self.assertEqual(most_behind(Meal({}), Book({}), "clock", "clock"), 0)
        self.assertEqual(worst_times(Meal({}), Book({}), "clock", "clock"), {})

    def test_numbers_of_nine_digits(self):
        names = "abcdef"
        meal = Meal({name: (1, 999999999) for name in names})
        book = Book(dict(zip(names, zip(["clock", *names], [999999999] * 6))))
        self.assertEqual(most_behind(meal, book, "clock", ("done", "f")), 12 * 999999999)
        self.assertEqual(most_behind(meal, book, ("done", "f"), "clock"), -6 * 1000000000)


class Slacks(unittest.TestCase):
    def test_slacks_in_the_order_of_the_wishes(self):
        self.assertEqual(slacks(MEAL, BOOK), [2, 0])
        self.assertEqual(slacks(meal=MEAL.more(ready_by(["tea", "fish"], 14)), book=BOOK), [2, 0, -2, 2])
        self.assertEqual(slacks(MEAL.more([("clock", "clock", -3), ("clock", "clock", 0)]), BOOK), [2, 0, -3, 0])
        self.assertEqual(slacks(Meal({"tea": (1, 2)}), Book({"tea": ("clock", 0)})), [])
        self.assertEqual(slacks(Meal({}, [("clock", "clock", -1)]), Book({})), [-1])

    def test_against_all_times(self):
        for meal, rows in some_cases(19, 80):
            found = [most - max(behind_by(rows, times, one, other) for times in all_times(meal))
                     for one, other, most in meal.wishes()]
            self.assertEqual(slacks(meal, Book(rows)), found)


class Fault(unittest.TestCase):
    def test_a_right_book(self):
        book = Book({"rice": ("clock", 0), "fish": ("clock", 3), "tea": ("fish", 0)})
        self.assertIs(is_right(MEAL, book), True)
        self.assertIsNone(fault(MEAL, book))
        for meal, book in ((Meal({}), Book({})), (Meal(TIMES), BOOK)):
            self.assertIs(is_right(meal, book), True)
            self.assertIsNone(fault(meal, book))

    def test_the_first_wish_that_is_not_kept(self):
        meal = MEAL.more(ready_by(["tea", "rice"], 11))
        self.assertEqual(fault(meal, BOOK), ("wish", 2, {"fish": 5, "rice": 12, "tea": 3}))
        self.assertEqual(fault(meal.less(2), BOOK), ("wish", 2, {"fish": 5, "rice": 12, "tea": 3}))
        self.assertEqual(fault(meal=MEAL.more(ready_by(["fish"], 11)), book=BOOK),
                         ("wish", 2, {"fish": 9, "rice": 10, "tea": 3}))
        self.assertIs(is_right(meal, BOOK), False)
        self.assertIs(is_right(meal=meal, book=BOOK), False)
        self.assertIsInstance(fault(meal, BOOK), tuple)

    def test_wishes_that_contradict_themselves(self):
        for wish in (("clock", "clock", -1), (("done", "tea"), ("done", "tea"), -1), (("done", "tea"), ("start", "tea"), -4)):
            book = Book({"rice": ("clock", 0), "fish": ("clock", 3), "tea": ("fish", 0)})
            self.assertEqual(fault(MEAL.more([wish]), book)[:2], ("wish", 2))
            self.assertIsNone(fault(MEAL.more([(wish[0], wish[1], wish[2] + 1)]), book))

    def test_the_first_pair_of_the_first_station(self):
        meal = Meal(TIMES, (), [["tea", "rice"], ["tea", "rice", "fish"], ["fish", "rice"]])
        book = Book({"rice": ("clock", 0), "fish": ("clock", 3), "tea": ("rice", 0)})
        found = fault(meal, book)
        self.assertEqual(found[:3], ("station", 1, ("fish", "rice")))
        self.assertIn(found[3], list(all_times(meal)))
        self.assertTrue(at_once(book.rows(), found[3], "fish", "rice"))
        self.assertIs(is_right(meal, book), False)
        self.assertEqual(fault(meal, book), found)
        self.assertIsInstance(found[2], tuple)

    def test_wishes_come_ahead_of_stations(self):
        meal = Meal(TIMES, ready_by(["tea"], 3), [["fish", "rice"]])
        self.assertEqual(fault(meal, BOOK)[:2], ("wish", 0))
        self.assertEqual(fault(meal.less(0), BOOK)[:3], ("station", 0, ("fish", "rice")))

    def test_one_ends_as_the_other_starts(self):
        meal = Meal({"tea": (2, 4), "rice": (3, 3)}, (), [["tea", "rice"]])
        for wait in range(9):
            book = Book({"rice": ("clock", 2), "tea": ("clock", wait)})
            self.assertEqual(is_right(meal, book), wait >= 5, wait)
        self.assertTrue(is_right(meal, Book({"rice": ("tea", 0), "tea": ("clock", 0)})))

    def test_against_all_times(self):
        seen = {"wish": 0, "station": 0, None: 0}
        for meal, rows in some_cases(20, 250, wishes=2, most=9):
            book = Book(rows)
            found = fault(meal, book)
            seen[found and found[0]] += 1
            self.assertEqual(found is None, right(meal, rows))
            self.assertIs(is_right(meal, book), right(meal, rows))
            broken = [index for index, wish in enumerate(meal.wishes())
                      if not all(holds(rows, times, wish) for times in all_times(meal))]
            if broken:
                one, other, most = meal.wishes()[broken[0]]
                self.assertEqual(found, ("wish", broken[0], worst_times(meal, book, one, other)))
            elif found:
                shared = [(index, (one, other)) for index, one, other in station_pairs(meal)
                          if any(at_once(rows, times, one, other) for times in all_times(meal))]
                self.assertEqual(found[:3], ("station", *shared[0]))
                self.assertTrue(at_once(rows, found[3], *found[2]))
                self.assertIn(found[3], list(all_times(meal)))
                self.assertEqual(list(found[3]), list(meal))
        self.assertGreater(min(seen.values()), 20)


class Orders(unittest.TestCase):
    def test_ascending_triples(self):
        meal = Meal(TIMES, (), [["tea", "rice"], ["tea", "rice", "fish"]])
        self.assertEqual(orders(meal, Book({"rice": ("tea", 0), "tea": ("fish", 2), "fish": ("clock", 1)})),
                         [(0, "tea", "rice"), (1, "fish", "rice"), (1, "fish", "tea"), (1, "tea", "rice")])
        self.assertEqual(orders(meal, Book({"rice": ("clock", 0), "tea": ("clock", 12), "fish": ("clock", 11)})),
                         [(0, "rice", "tea"), (1, "rice", "tea")])
        self.assertEqual(orders(meal=meal, book=BOOK), [(0, "rice", "tea"), (1, "rice", "tea")])
        self.assertIsInstance(orders(meal, BOOK)[0], tuple)

    def test_dishes_of_no_station_have_none(self):
        self.assertEqual(orders(Meal(TIMES), BOOK), [])
        self.assertEqual(orders(Meal({}), Book({})), [])
        self.assertEqual(orders(Meal(TIMES, (), [["tea", "fish"]]), BOOK), [])

    def test_two_dishes_never_on_at_once_come_in_one_order(self):
        for meal, rows in some_cases(21, 150, wishes=0, stations=3):
            found = orders(meal, Book(rows))
            told = [(index, first, later) for index, one, other in station_pairs(meal)
                    for first, later in ((one, other), (other, one)) if is_first(meal, rows, first, later)]
            self.assertEqual(found, sorted(told))
            for index, one, other in station_pairs(meal):
                apart = not any(at_once(rows, times, one, other) for times in all_times(meal))
                self.assertEqual(apart, (index, one, other) in found or (index, other, one) in found)
                self.assertFalse((index, one, other) in found and (index, other, one) in found)


class Happens(unittest.TestCase):
    def check(self, meal, rows, wishes):
        """Hold what is found against all times, one by one."""
        found = happens(meal, Book(rows), wishes)
        some = [times for times in all_times(meal) if all(holds(rows, times, wish) for wish in wishes)]
        if found is None:
            self.assertEqual(some, [])
        else:
            self.assertIn(found, some)
            self.assertEqual(list(found), list(meal))
        return found

    def test_times_in_which_all_hold(self):
        rows = BOOK.rows()
        self.assertEqual(self.check(MEAL, rows, [(("done", "fish"), "clock", -12), ("clock", ("done", "rice"), 10)]),
                         {"fish": 9, "rice": 10, "tea": 3})
        self.assertIsNone(self.check(MEAL, rows, [(("done", "fish"), "clock", -13)]))
        self.assertIsNone(self.check(MEAL, rows, behind("tea", "rice", 2)))
        self.assertIsNotNone(self.check(MEAL, rows, behind("tea", "rice", 1)))
        self.assertIsNotNone(self.check(MEAL, rows, together(["rice", "fish"], 0)))
        self.assertIsNotNone(self.check(MEAL, rows, []))

    def test_the_clock_and_one_moment_twice(self):
        rows = BOOK.rows()
        for moment in MOMENTS:
            self.assertIsNotNone(self.check(MEAL, rows, [(moment, moment, 0)]))
            self.assertIsNone(self.check(MEAL, rows, [(moment, moment, 0), (moment, moment, -1)]))

    def test_it_looks_at_all_wishes_at_once(self):
        # Each two of these may hold at once, but not all three.
        meal = Meal({"tea": (1, 5), "rice": (1, 5)})
        rows = {"tea": ("clock", 0), "rice": ("tea", 0)}
        wishes = [("clock", ("done", "rice"), 6), (("done", "tea"), "clock", -3), (("done", "rice"), ("start", "rice"), -4)]
        self.assertIsNone(self.check(meal, rows, wishes))
        for index in range(3):
            self.assertIsNotNone(self.check(meal, rows, wishes[:index] + wishes[index + 1:]))

    def test_against_all_times(self):
        none = 0
        for meal, rows in some_cases(22, 400, wishes=6, most=7, longest=4):
            none += self.check(meal, rows, meal.wishes()) is None
        self.assertGreater(none, 100)
        self.assertLess(none, 300)

    def test_lists_names_and_what_is_kept(self):
        wishes = [[["done", "fish"], "clock", -12], ("clock", ["done", "rice"], 10)]
        found = happens(meal=MEAL, book=BOOK, wishes=wishes)
        self.assertEqual(found, {"fish": 9, "rice": 10, "tea": 3})
        self.assertEqual(happens(MEAL, BOOK, tuple(wishes)), found)
        self.assertEqual(wishes, [[["done", "fish"], "clock", -12], ("clock", ["done", "rice"], 10)])
        found["ham"] = 1
        self.assertEqual(happens(MEAL, BOOK, wishes), {"fish": 9, "rice": 10, "tea": 3})
        self.assertEqual(MEAL.wishes(), together(["rice", "fish"], 4))

    def test_no_dishes_and_nine_digits(self):
        self.assertEqual(happens(Meal({}), Book({}), []), {})
        self.assertIsNone(happens(Meal({}), Book({}), [("clock", "clock", -1)]))
        names = "abcdef"
        meal = Meal({name: (1, 999999999) for name in names})
        book = Book(dict(zip(names, zip(["clock", *names], [999999999] * 6))))
        self.assertEqual(happens(meal, book, [(("done", name), ("start", name), -999999999) for name in names]),
                         {name: 999999999 for name in names})

    def test_wrong_wishes(self):
        right_ones = [("clock", ("done", "tea"), 5), ("clock", "clock", 0)]
        for thing in any_objects():
            if thing == (("start", "rice"), "clock", 5):
                continue
            if not isinstance(thing, (list, tuple)):
                with self.assertRaises(BadWish) as caught:
                    happens(MEAL, BOOK, thing)
                self.assertEqual(caught.exception.index, 0)
            for index in range(3):
                with self.assertRaises(BadWish) as caught:
                    happens(MEAL, BOOK, right_ones[:index] + [thing] + right_ones[index:] + [None])
                self.assertEqual(caught.exception.index, index)
        for thing in (("clock", "clock", True), ("clock", ("done", "ham"), 1), ("clock", "clock"), ("clock", "clock", 0, 0)):
            with self.assertRaises(BadWish) as caught:
                happens(MEAL, BOOK, [right_ones[0], thing])
            self.assertEqual(caught.exception.index, 1)


if __name__ == "__main__":
    unittest.main()
