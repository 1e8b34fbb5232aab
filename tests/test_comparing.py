"""Points 35 and 36: two books of a meal compared."""

import itertools
import random
import unittest

from cookcalls.books import Book
from cookcalls.comparing import gains, never_later, parting, same
from cookcalls.errors import Unlike
from cookcalls.meals import Meal, together
from tests.trying import all_times, minute, some_meal, some_rows

BOUNDS = {"fish": (2, 5), "rice": (3, 4), "tea": (2, 2)}
MEAL = Meal(BOUNDS, together(["fish", "rice"], 3), [["fish", "tea"]])
CLOCKED = Book({"fish": ("clock", 3), "rice": ("clock", 0), "tea": ("clock", 9)})
CALLED = Book({"fish": ("clock", 3), "rice": ("clock", 0), "tea": ("fish", 1)})


def gained(meal, one, other, name):
    """Return, for all times one by one, how many minutes earlier the dish starts by the rows one than by the other."""
    moment = ("start", name)
    return [minute(other, times, moment) - minute(one, times, moment) for times in all_times(meal)]


def some_pairs(seed, many, names=("fish", "rice", "tea")):
    """Yield meals and the rows of two books by chance, which often hang some dishes in the same way."""
    rng = random.Random(seed)
    for at in range(many):
        meal = some_meal(rng, list(names), longest=4 if at % 3 else 2)
        one = some_rows(rng, list(meal), 3)
        other = some_rows(rng, list(meal), 3)
        if at % 2:
            other = {name: (one[name][0], max(0, one[name][1] + rng.randint(-1, 1))) for name in one}
        yield meal, one, other


class Compared(unittest.TestCase):
    def check(self, meal, one, other):
        """Hold all four functions against all times."""
        earlier = {name: gained(meal, one, other, name) for name in meal}
        books = (Book(one), Book(other))
        self.assertIs(never_later(meal, *books), all(min(found) >= 0 for found in earlier.values()))
        self.assertIs(same(meal, *books), all(set(found) == {0} for found in earlier.values()))
        self.assertEqual(gains(meal, *books), {name: (min(earlier[name]), max(earlier[name])) for name in meal})
        self.assertEqual(list(gains(meal, *books)), sorted(meal))
        parted = parting(meal, *books)
        unlike = [name for name in sorted(meal) if set(earlier[name]) != {0}]
        if not unlike:
            self.assertIsNone(parted)
            return "same"
        self.assertIsInstance(parted, tuple)
        name, times = parted
        self.assertEqual(name, unlike[0])
        self.assertIn(times, list(all_times(meal)))
        self.assertNotEqual(*[minute(rows, times, ("start", name)) for rows in (one, other)])
        return "never later" if never_later(meal, *books) else "else"


class AgainstAllTimes(Compared):
    def test_three_dishes(self):
        kinds = {"same": 0, "never later": 0, "else": 0}
        for meal, one, other in some_pairs(351, 300):
            kinds[self.check(meal, one, other)] += 1
        self.assertGreater(min(kinds.values()), 5)

    def test_no_dishes_one_and_six(self):
        self.check(Meal({}), {}, {})
        for meal, one, other in some_pairs(352, 20, ["tea"]):
            self.check(meal, one, other)
        for meal, one, other in some_pairs(353, 20, ["ale", "bun", "cod", "dal", "eel", "fig"]):
            bounds = {name: (least, min(least + 1, most)) for name, (least, most) in meal.dishes().items()}
            self.check(Meal(bounds), one, other)

    def test_all_pairs_of_books_of_two_dishes(self):
        books = [rows for hooks in (("clock", "clock"), ("clock", "ham"), ("tea", "clock"))
                 for waits in itertools.product(range(3), repeat=2)
                 for rows in [{"ham": (hooks[0], waits[0]), "tea": (hooks[1], waits[1])}]]
        for bounds in (((1, 1), (2, 2)), ((1, 2), (1, 1)), ((1, 3), (2, 4))):
            meal = Meal(dict(zip(["ham", "tea"], bounds)))
            for one, other in itertools.product(books, repeat=2):
                self.check(meal, one, other)


class NeverLater(unittest.TestCase):
    def test_one_that_starts_no_dish_later(self):
        self.assertIs(never_later(MEAL, CALLED, CLOCKED), True)
        self.assertIs(never_later(MEAL, CLOCKED, CALLED), False)
        self.assertIs(never_later(MEAL, CLOCKED, CLOCKED), True)
        self.assertIs(never_later(meal=MEAL, one=CLOCKED, other=CLOCKED + 1), True)
        self.assertIs(never_later(meal=MEAL, one=CLOCKED + 1, other=CLOCKED), False)
        # In no times later, though in some times at the same minute.
        self.assertTrue(never_later(MEAL, CALLED, Book({**CALLED.rows(), "tea": ("clock", 9)})))
        self.assertFalse(never_later(MEAL, CALLED, Book({**CALLED.rows(), "tea": ("clock", 8)})))

    def test_what_stands_on_both_ways_cancels(self):
        hung = Book({"fish": ("clock", 0), "rice": ("fish", 2), "tea": ("rice", 1)})
        self.assertTrue(never_later(MEAL, hung, Book({**hung.rows(), "tea": ("rice", 2)})))
        # The rice takes at least 3 minutes: behind it, 1 minute is as late as 4 minutes behind the fish.
        for wait in range(9):
            other = Book({"fish": ("clock", 0), "rice": ("fish", 0), "tea": ("fish", wait)})
            one = Book({"fish": ("clock", 0), "rice": ("fish", 0), "tea": ("rice", 1)})
            self.assertEqual(never_later(MEAL, one, other), wait >= 5)
            self.assertEqual(never_later(MEAL, other, one), wait <= 4)

    def test_there_may_be_neither(self):
        one = Book({**CALLED.rows(), "tea": ("clock", 7)})
        self.assertFalse(never_later(MEAL, one, CALLED))
        self.assertFalse(never_later(MEAL, CALLED, one))


class Same(unittest.TestCase):
    def test_books_that_are_equal(self):
        for meal, one, other in some_pairs(354, 30):
            self.assertIs(same(meal, Book(one), Book(one)), True)
            self.assertIsNone(parting(meal, Book(one), Book(one)))
            self.assertEqual(gains(meal, Book(one), Book(one)), {name: (0, 0) for name in meal})

    def test_what_hangs_on_a_dish_that_takes_one_number_of_minutes(self):
        rng = random.Random(355)
        for _ in range(60):
            meal = some_meal(rng, ["ham", "rice", "soup", "tea"]).taking("soup", 2, 2)
            rows = some_rows(rng, list(meal), 4)
            hook, wait = rows["soup"]
            # Whatever hangs on the soup might as well hang on what the soup hangs on.
            moved = {name: (hook, wait + 2 + rows[name][1]) if rows[name][0] == "soup" else rows[name] for name in rows}
            self.assertIs(same(meal, Book(rows), Book(moved)), True)
            self.assertTrue(same(meal=meal, one=Book(moved), other=Book(rows)))
            if moved != rows:
                self.assertFalse(same(meal.taking("soup", 2, 3), Book(rows), Book(moved)))
                self.assertFalse(same(meal, Book(rows), Book(moved) + 1))

    def test_never_later_both_ways(self):
        for meal, one, other in some_pairs(356, 100):
            both = never_later(meal, Book(one), Book(other)) and never_later(meal, Book(other), Book(one))
            self.assertEqual(same(meal, Book(one), Book(other)), both)
            self.assertEqual(same(meal, Book(one), Book(other)), same(meal, Book(other), Book(one)))


class Parting(unittest.TestCase):
    def test_the_first_dish_and_times(self):
        name, times = parting(MEAL, CLOCKED, CALLED)
        self.assertEqual(name, "tea")
        self.assertEqual(list(times), ["fish", "rice", "tea"])
        self.assertIn(times["fish"], (2, 3, 4))
        self.assertEqual(parting(meal=MEAL, one=CLOCKED, other=CLOCKED + 1)[0], "fish")
        self.assertEqual(parting(MEAL, CALLED, Book({**CALLED.rows(), "rice": ("tea", 0)}))[0], "rice")

    def test_starts_that_differ_only_in_the_least_or_only_in_the_most_times(self):
        for wait in (9, 6):
            other = Book({**CALLED.rows(), "tea": ("clock", wait)})
            for one, two in ((CALLED, other), (other, CALLED)):
                name, times = parting(MEAL, one, two)
                self.assertNotEqual(one(times)[name][0], two(times)[name][0])

    def test_the_same_again_and_new_each_time(self):
        found = parting(MEAL, CLOCKED, CALLED)
        before = dict(found[1])
        found[1].clear()
        self.assertEqual(parting(MEAL, CLOCKED, CALLED), ("tea", before))


class Gains(unittest.TestCase):
    def test_at_least_and_at_most(self):
        found = gains(MEAL, CALLED, CLOCKED)
        self.assertEqual(found, {"fish": (0, 0), "rice": (0, 0), "tea": (0, 3)})
        self.assertEqual(gains(meal=MEAL, one=CLOCKED, other=CALLED), {"fish": (0, 0), "rice": (0, 0), "tea": (-3, 0)})
        self.assertEqual(gains(MEAL, CLOCKED, CLOCKED + 4), {"fish": (4, 4), "rice": (4, 4), "tea": (4, 4)})
        self.assertEqual(gains(MEAL, CLOCKED + 4, CLOCKED), {"fish": (-4, -4), "rice": (-4, -4), "tea": (-4, -4)})
        self.assertIsInstance(found["tea"], tuple)
        self.assertEqual(gains(Meal({}), Book({}), Book({})), {})

    def test_they_tell_what_the_others_tell(self):
        for meal, one, other in some_pairs(361, 100):
            found = gains(meal, Book(one), Book(other))
            self.assertEqual(gains(meal, Book(other), Book(one)),
                             {name: (-most, -least) for name, (least, most) in found.items()})
            self.assertEqual(never_later(meal, Book(one), Book(other)), min(found.values(), default=(0, 0))[0] >= 0)
            self.assertEqual(same(meal, Book(one), Book(other)), set(found.values()) <= {(0, 0)})

    def test_numbers_of_nine_digits(self):
        names, most = list("abcdef"), 999999999
        meal = Meal({name: (1, most) for name in names})
        chain = Book(dict(zip(names, zip(["clock", *names], [most] * 6))))
        clocked = Book({name: ("clock", most) for name in names})
        self.assertEqual(gains(meal, clocked, chain)["f"], (5 * most + 5, 10 * most))
        self.assertEqual(gains(meal, chain, clocked)["f"], (-10 * most, -5 * most - 5))
        self.assertEqual(parting(meal, chain, clocked)[0], "b")
        self.assertTrue(never_later(meal, clocked, chain))

    def test_wishes_and_stations_count_for_nothing(self):
        for function in (never_later, same, parting, gains):
            self.assertEqual(function(MEAL, CLOCKED, CALLED), function(Meal(BOUNDS), CLOCKED, CALLED))


class UnlikeDishes(unittest.TestCase):
    def test_unlike_for_the_first_for_the_second_and_for_both(self):
        less = Book({"fish": ("clock", 0), "rice": ("clock", 0)})
        more = Book({**CLOCKED.rows(), "pie": ("clock", 0)})
        for function in (never_later, same, parting, gains):
            for wrong in (less, more, Book({}), Book({"fish": ("clock", 0), "rice": ("fish", 0), "pie": ("rice", 0)})):
                self.assertRaises(Unlike, function, MEAL, wrong, CLOCKED)
                self.assertRaises(Unlike, function, MEAL, CLOCKED, wrong)
                self.assertRaises(Unlike, function, MEAL, wrong, wrong)
                self.assertRaises(Unlike, function, meal=MEAL, other=wrong, one=less)
            # The first dish parts the books already, and the other dishes are unlike.
            self.assertRaises(Unlike, function, MEAL, CLOCKED + 1, less)
            self.assertRaises(Unlike, function, Meal({}), CLOCKED, CLOCKED)
            self.assertRaises(Unlike, function, Meal({}), Book({}), CLOCKED)


if __name__ == "__main__":
    unittest.main()
