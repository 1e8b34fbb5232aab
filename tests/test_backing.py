"""Points 37 and 38: what the dishes took, by the minutes at which some moments were seen."""

import itertools
import random
import unittest

from cookcalls.backing import blamed, told_back
from cookcalls.books import Book
from cookcalls.errors import BadSeen, Unlike
from cookcalls.meals import Meal, ready_by
from tests.things import any_keys, any_objects
from tests.trees import least_of
from tests.trying import all_times, minute, some_meal, some_rows

BOUNDS = {"fish": (2, 5), "rice": (3, 4), "tea": (2, 2)}
MEAL = Meal(BOUNDS)
CHAIN = Book({"fish": ("clock", 1), "rice": ("fish", 0), "tea": ("rice", 2)})
FORK = Book({"fish": ("clock", 1), "rice": ("fish", 0), "tea": ("fish", 3)})


def as_seen(rows, times, seen):
    return all(minute(rows, times, moment) == at for moment, at in seen.items())


def some_seen(rng, meal, rows, around=0):
    """Return seen moments by chance, as they were in some times of the meal, give or take."""
    times = {name: rng.randint(least, most) for name, (least, most) in meal.dishes().items()}
    moments = [(edge, name) for edge in ("start", "done") for name in meal]
    chosen = rng.sample(moments, rng.randint(0, len(moments)))
    return {moment: minute(rows, times, moment) + rng.choice([0, 0, rng.randint(-around, around)]) for moment in chosen}


def explained(meal, rows, seen, names):
    """Tell whether some minutes, from 0 on for the names and within bounds for all others, explain what was seen."""
    # A dish that took longer than this was done behind all that was seen, and might as well have taken so long.
    longest = max([0, *seen.values()]) + 1
    ranges = [range(longest + 1) if name in names else range(least, most + 1)
              for name, (least, most) in meal.dishes().items()]
    return any(as_seen(rows, dict(zip(meal, taken)), seen) for taken in itertools.product(*ranges))


class ToldBack(unittest.TestCase):
    def check(self, meal, rows, seen):
        """Hold what is told against all times, one by one."""
        found = told_back(meal, Book(rows), seen)
        fitting = [times for times in all_times(meal) if as_seen(rows, times, seen)]
        if not fitting:
            self.assertIsNone(found)
            return None
        self.assertEqual(found, {name: (min(times[name] for times in fitting), max(times[name] for times in fitting))
                                 for name in meal})
        self.assertEqual(list(found), sorted(meal))
        return found

    def test_what_was_seen_tells_of_others(self):
        rows = CHAIN.rows()
        self.assertEqual(self.check(MEAL, rows, {("done", "fish"): 4}), {"fish": (3, 3), "rice": (3, 4), "tea": (2, 2)})
        self.assertEqual(self.check(MEAL, rows, {("done", "rice"): 7}), {"fish": (2, 3), "rice": (3, 4), "tea": (2, 2)})
        self.assertEqual(self.check(MEAL, rows, {("start", "tea"): 12}),
                         {"fish": (5, 5), "rice": (4, 4), "tea": (2, 2)})
        self.assertIsNone(self.check(MEAL, rows, {("start", "tea"): 13}))
        self.assertEqual(self.check(MEAL, FORK.rows(), {("done", "tea"): 9, ("done", "rice"): 7}),
                         {"fish": (3, 3), "rice": (3, 3), "tea": (2, 2)})

    def test_nothing_seen_and_all_seen(self):
        for rows in (CHAIN.rows(), FORK.rows()):
            self.assertEqual(self.check(MEAL, rows, {}), BOUNDS)
            for times in all_times(MEAL):
                moments = list(itertools.product(("start", "done"), BOUNDS))
                seen = {moment: minute(rows, times, moment) for moment in moments}
                self.assertEqual(self.check(MEAL, rows, seen), {name: (times[name],) * 2 for name in BOUNDS})
                seen["done", "tea"] += 1
                self.assertIsNone(self.check(MEAL, rows, seen))

    def test_one_dish_seen_at_its_start_and_its_done(self):
        rows = CHAIN.rows()
        for start, done in itertools.product(range(-1, 8), range(-1, 12)):
            self.check(MEAL, rows, {("start", "rice"): start, ("done", "rice"): done})
            self.check(MEAL, rows, {("done", "fish"): start, ("start", "fish"): done})

    def test_minutes_below_0(self):
        for moment in [(edge, name) for edge in ("start", "done") for name in BOUNDS]:
            for at in (-1, -999999999):
                self.assertIsNone(told_back(MEAL, CHAIN, {moment: at}))

    def test_against_all_times(self):
        rng = random.Random(37)
        none = 0
        for at in range(300):
            meal = some_meal(rng, ["ham", "rice", "tea"], longest=4)
            rows = some_rows(rng, list(meal), 3)
            none += self.check(meal, rows, some_seen(rng, meal, rows, at % 3)) is None
        self.assertTrue(40 < none < 200, none)

    def test_four_dishes_against_all_times(self):
        rng = random.Random(38)
        for at in range(60):
            meal = some_meal(rng, ["ham", "rice", "soup", "tea"])
            rows = some_rows(rng, list(meal), 3)
            self.check(meal, rows, some_seen(rng, meal, rows, at % 2))

    def test_no_dishes_six_dishes_and_nine_digits(self):
        self.assertEqual(told_back(Meal({}), Book({}), {}), {})
        names, most = list("abcdef"), 999999999
        meal = Meal({name: (1, most) for name in names})
        chain = Book(dict(zip(names, zip(["clock", *names], [most] * 6))))
        seen = {("start", "b"): most + 2 + most, ("done", "b"): 3 * most + 2}
        self.assertEqual(told_back(meal, chain, seen)["a"], (2, 2))
        self.assertEqual(told_back(meal, chain, {("done", "f"): 12 * most}), {name: (most, most) for name in names})
        self.assertEqual(told_back(meal, chain, {("done", "f"): 6 * most + 7}), {name: (1, 2) for name in names})
        self.assertIsNone(told_back(meal, chain, {("done", "f"): 12 * most + 1}))
        self.assertEqual(told_back(meal, chain, {("done", "a"): most + 7})["a"], (7, 7))
        self.assertIsNone(told_back(meal, chain, {("done", "a"): most}))

    def test_wishes_and_stations_count_for_nothing(self):
        meal = Meal(BOUNDS, ready_by(["tea"], 0), [["fish", "tea", "rice"]])
        self.assertEqual(told_back(meal, CHAIN, {}), BOUNDS)

    def test_by_name_the_same_again_and_new_each_time(self):
        seen = {("done", "fish"): 4, ("start", "tea"): 9}
        found = told_back(meal=MEAL, book=CHAIN, seen=seen)
        self.assertEqual(found, {"fish": (3, 3), "rice": (3, 3), "tea": (2, 2)})
        self.assertIsInstance(found["fish"], tuple)
        found.clear()
        self.assertEqual(told_back(MEAL, CHAIN, seen), {"fish": (3, 3), "rice": (3, 3), "tea": (2, 2)})
        self.assertEqual(seen, {("done", "fish"): 4, ("start", "tea"): 9})


class Blamed(unittest.TestCase):
    def check(self, meal, rows, seen):
        """Hold the least sets against all sets, and these against all times, one by one."""
        sets = [names for many in range(len(meal) + 1) for names in itertools.combinations(meal, many)
                if explained(meal, rows, seen, names)]
        self.assertEqual(blamed(meal, Book(rows), seen), least_of(sets))
        return blamed(meal, Book(rows), seen)

    def test_who_took_other_times(self):
        rows = CHAIN.rows()
        self.assertEqual(self.check(MEAL, rows, {("done", "fish"): 4}), [()])
        self.assertEqual(self.check(MEAL, rows, {("done", "fish"): 9}), [("fish",)])
        self.assertEqual(self.check(MEAL, rows, {("done", "rice"): 11}), [("fish",), ("rice",)])
        self.assertEqual(self.check(MEAL, rows, {("start", "tea"): 3}), [("fish", "rice")])
        self.assertEqual(self.check(MEAL, rows, {("done", "fish"): 9, ("done", "tea"): 15}),
                         [("fish", "rice"), ("fish", "tea")])
        self.assertEqual(self.check(MEAL, rows, {("done", "tea"): 6}),
                         [("fish", "rice"), ("fish", "tea"), ("rice", "tea")])

    def test_sets_with_fewer_dishes_come_first(self):
        # The rice alone, or both the others.
        meal = Meal({"ale": (3, 3), "bun": (3, 3), "rice": (3, 9)})
        book = Book({"rice": ("clock", 0), "ale": ("rice", 0), "bun": ("rice", 0)})
        seen = {("done", "ale"): 5, ("done", "bun"): 5}
        self.assertEqual(self.check(meal, book.rows(), seen), [("rice",), ("ale", "bun")])

    def test_nothing_explains_it(self):
        for seen in ({("start", "fish"): 2}, {("start", "rice"): 0}, {("done", "fish"): 5, ("start", "rice"): 4},
                     {("done", "fish"): -1}, {("start", "fish"): 1, ("done", "fish"): 0}):
            self.assertEqual(self.check(MEAL, CHAIN.rows(), seen), [])

    def test_a_dish_may_have_taken_no_time_at_all(self):
        self.assertEqual(blamed(MEAL, CHAIN, {("done", "fish"): 1}), [("fish",)])
        self.assertEqual(blamed(MEAL, CHAIN, {("done", "tea"): 3}), [("fish", "rice", "tea")])
        self.assertEqual(blamed(MEAL, CHAIN, {("done", "fish"): 0}), [])

    def test_against_all_sets_of_dishes(self):
        rng = random.Random(381)
        kinds = {}
        for at in range(150):
            meal = some_meal(rng, ["ham", "rice", "tea"], longest=3)
            rows = some_rows(rng, list(meal), 2)
            found = self.check(meal, rows, some_seen(rng, meal, rows, 1 + at % 3))
            kind = tuple(len(names) for names in found)
            kinds[kind] = kinds.get(kind, 0) + 1
        self.assertGreater(kinds[()], 5)
        self.assertGreater(kinds[(0,)], 5)
        self.assertGreater(kinds[(1,)], 5)
        self.assertGreater(kinds[(1, 1)], 0)

    def test_times_of_the_meal_explain_what_is_told_back(self):
        rng = random.Random(382)
        for at in range(100):
            meal = some_meal(rng, list("abcdef"), longest=9)
            rows = some_rows(rng, list(meal), 5)
            seen = some_seen(rng, meal, rows, at % 3)
            self.assertEqual(told_back(meal, Book(rows), seen) is not None, blamed(meal, Book(rows), seen) == [()])

    def test_no_dishes_and_nine_digits(self):
        self.assertEqual(blamed(Meal({}), Book({}), {}), [()])
        names, most = list("abcdef"), 999999999
        meal = Meal({name: (1, 1) for name in names})
        chain = Book(dict(zip(names, zip(["clock", *names], [most] * 6))))
        self.assertEqual(blamed(meal, chain, {("done", "f"): 12 * most}), [(name,) for name in names])
        self.assertEqual(blamed(meal, chain, {("start", "d"): 4 * most, ("done", "f"): 6 * most + 4}),
                         [("a", "b", "c", "d"), ("a", "b", "c", "e"), ("a", "b", "c", "f")])

    def test_by_name_and_new_each_time(self):
        seen = {("done", "rice"): 11}
        found = blamed(meal=MEAL, book=CHAIN, seen=seen)
        self.assertEqual(found, [("fish",), ("rice",)])
        self.assertIsInstance(found[0], tuple)
        found.clear()
        self.assertEqual(blamed(MEAL, CHAIN, seen), [("fish",), ("rice",)])


class WrongSeen(unittest.TestCase):
    def check(self, seen, thing):
        for function in (told_back, blamed):
            with self.assertRaises(BadSeen) as caught:
                function(MEAL, CHAIN, seen)
            self.assertEqual(repr(caught.exception.thing), repr(thing))

    def test_keys_that_are_no_moments_of_a_dish(self):
        wrong = [key for key in any_keys() if key != ("start", "rice")]
        wrong += ["clock", "rice", ("start", "pie"), ("done", "clock"), ("begin", "rice"), ("rice", "start"),
                  ("start",), ("start", "rice", 0), ("start", ("rice",)), (("start", "rice"),), ("start", True)]
        for thing in wrong:
            self.check({thing: 5}, thing)
            self.check({("done", "fish"): 4, thing: None, ("done", "tea"): None}, thing)

    def test_values_that_are_no_integers(self):
        for thing in any_objects():
            if isinstance(thing, int) and not isinstance(thing, bool):
                continue
            self.check({("done", "rice"): thing}, ("done", "rice"))
            self.check({("done", "fish"): 4, ("start", "tea"): thing, "pie": 0}, ("start", "tea"))

    def test_the_first_one_in_the_order_of_the_dict(self):
        self.check({("done", "tea"): True, ("done", "fish"): None}, ("done", "tea"))
        self.check({("done", "fish"): None, ("done", "tea"): True}, ("done", "fish"))
        self.check({"pie": 1, "clock": 0}, "pie")
        # There would be no such times either.
        self.check({("done", "fish"): -5, "clock": 0}, "clock")

    def test_unlike_ahead_of_it(self):
        for book in (Book({}), Book({"fish": ("clock", 0)}), Book({**CHAIN.rows(), "pie": ("clock", 0)})):
            for seen in ({}, {"pie": 0}, {("done", "fish"): None}):
                self.assertRaises(Unlike, told_back, MEAL, book, seen)
                self.assertRaises(Unlike, blamed, MEAL, book, seen)
        self.assertRaises(Unlike, blamed, Meal({}), CHAIN, {})


if __name__ == "__main__":
    unittest.main()
