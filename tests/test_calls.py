"""Points 30 and 31: which calls are needed."""

import itertools
import random
import time
import unittest

from cookcalls.calls import enough, in_place, least_looks
from cookcalls.errors import NoDish
from cookcalls.meals import Meal, behind, keeping, ready_by, together
from cookcalls.seeking import book_for
from tests.things import any_objects
from tests.trees import all_looks, calling_meals, has_book, least_of, small_meals, tight_meal
from tests.trying import all_hooks, all_rows, right, some_meal

BOUNDS = {"fish": (2, 5), "rice": (3, 4), "tea": (1, 1)}
# The rice starts right behind the fish, the tea right behind the rice.
CALLED = Meal(BOUNDS, behind("rice", "fish", 0) + [(("done", "fish"), ("start", "rice"), 0)])
CHAIN = CALLED.more(behind("tea", "rice", 1) + [(("done", "rice"), ("start", "tea"), 1)])
BY_WISHES = Meal(BOUNDS, together(["fish", "rice"], 1))
BY_STATION = Meal({"fish": (2, 2), "tea": (2, 2)}, ready_by(["fish", "tea"], 3), [["fish", "tea"]])
BY_BOTH = Meal(BOUNDS, together(["fish", "rice", "tea"], 4), [["fish", "rice", "tea"]])


class Enough(unittest.TestCase):
    def test_a_call_is_needed(self):
        for looks in ([], ["rice"], ["tea"], ["tea", "rice"], ()):
            self.assertIs(enough(CALLED, looks), False)
        for looks in (["fish"], ("fish",), ["rice", "fish"], ["tea", "fish", "rice"], ["fish", "fish"]):
            self.assertIs(enough(CALLED, looks), True)
        self.assertIs(enough(meal=CHAIN, looks=["rice", "fish"]), True)
        self.assertIs(enough(CHAIN, ["fish", "tea"]), False)

    def test_the_clock_is_enough(self):
        for looks in all_looks(BOUNDS):
            self.assertTrue(enough(Meal(BOUNDS), looks))
            self.assertTrue(enough(Meal(BOUNDS, ready_by(["fish"], 5), [["rice", "tea", "fish"]]), looks))

    def test_no_right_book_by_wishes_by_a_station_and_by_both(self):
        for meal in (BY_WISHES, BY_STATION, BY_BOTH):
            for looks in all_looks(meal):
                self.assertIs(enough(meal, looks), False)
        self.assertTrue(enough(Meal(BY_STATION.dishes(), BY_STATION.wishes()), []))
        self.assertTrue(enough(Meal(BOUNDS, BY_BOTH.wishes()), []))
        self.assertTrue(enough(Meal(BOUNDS, (), BY_BOTH.stations()), []))

    def test_no_dishes(self):
        self.assertIs(enough(Meal({}), []), True)
        self.assertIs(enough(Meal({}, [("clock", "clock", -1)]), ()), False)

    def test_names_that_are_no_dish(self):
        for thing in any_objects() + ["pie", ["fish"], ("fish",), True]:
            for looks in ([thing], ["fish", thing, "pie"], ("tea", thing, None)):
                with self.assertRaises(NoDish) as caught:
                    enough(CALLED, looks)
                self.assertEqual(repr(caught.exception.name), repr(thing))
        self.assertRaises(NoDish, enough, Meal({}), ["fish"])


class AgainstAllSets(unittest.TestCase):
    def test_against_all_trees_and_orders(self):
        rng = random.Random(30)
        several = 0
        for names, many in (("ab", 10), ("abc", 20)):
            tight = calling_meals(rng, list(names), many)
            for meal in tight + small_meals(rng, list(names), many, longest=4, most=5):
                sets = [looks for looks in all_looks(meal) if has_book(meal, looks)]
                for looks in all_looks(meal):
                    self.assertEqual(enough(meal, looks), looks in sets)
                self.assertEqual(least_looks(meal), least_of(sets))
                several += least_looks(meal) not in ([], [()])
        self.assertGreaterEqual(several, 30)

    def test_four_dishes_against_all_trees_and_orders(self):
        rng = random.Random(31)
        names = ["ham", "rice", "soup", "tea"]
        for meal in calling_meals(rng, names, 5) + small_meals(rng, names, 8, longest=6, wishes=9, most=9, stations=1):
            sets = [looks for looks in all_looks(meal) if has_book(meal, looks)]
            self.assertEqual(least_looks(meal), least_of(sets))

    def test_against_all_books_and_all_times(self):
        rng = random.Random(32)
        seen = set()
        for at in range(60):
            meal = tight_meal(rng, ["ham", "tea"], 3) if at % 2 else some_meal(rng, ["ham", "tea"], wishes=3, most=3)
            for looks in all_looks(meal):
                some = any(right(meal, rows) for hooks in all_hooks(list(meal), looks) for rows in all_rows(hooks, 7))
                self.assertEqual(enough(meal, looks), some)
                seen.add((some, len(looks)))
        self.assertEqual(len(seen), 6)

    def test_what_is_enough_stays_so_with_further_looks(self):
        rng = random.Random(33)
        for meal in calling_meals(rng, ["ham", "soup", "tea"], 20):
            for looks in all_looks(meal):
                for further in meal:
                    self.assertLessEqual(enough(meal, looks), enough(meal, [further, *looks]))


class LeastLooks(unittest.TestCase):
    def test_the_clock_a_chain_and_nothing(self):
        self.assertEqual(least_looks(Meal(BOUNDS)), [()])
        self.assertEqual(least_looks(CALLED), [("fish",)])
        self.assertEqual(least_looks(meal=CHAIN), [("fish", "rice")])
        for meal in (BY_WISHES, BY_STATION, BY_BOTH):
            self.assertEqual(least_looks(meal), [])
        self.assertIsInstance(least_looks(CHAIN)[0], tuple)

    def test_either_of_two_calls(self):
        # One pan, and both done within 6 minutes: the later one must be started by the call of the first one.
        meal = Meal({"beet": (3, 5), "cake": (2, 6)}, together(["cake", "beet"], 6), [["cake", "beet"]])
        self.assertEqual(least_looks(meal), [("beet",), ("cake",)])
        self.assertEqual(least_looks(meal.taking("cake", 2, 7)), [("cake",)])
        self.assertEqual(least_looks(meal.more(behind("cake", "beet", 0))), [("beet",)])

    def test_sets_with_fewer_things_come_first(self):
        meal = Meal({"beet": (3, 5), "cake": (3, 6), "egg": (1, 6)},
                    together(["cake", "egg"], 6) + together(["egg", "beet"], 6), [["beet", "cake"], ["egg", "beet"]])
        self.assertEqual(least_looks(meal), [("beet",), ("cake", "egg")])
        names = {"beet": "zucchini", "cake": "apple", "egg": "beet"}
        turned = Meal({names[name]: pair for name, pair in meal.dishes().items()}, together(["apple", "beet"], 6)
                      + together(["beet", "zucchini"], 6), [["zucchini", "apple"], ["beet", "zucchini"]])
        self.assertEqual(least_looks(turned), [("zucchini",), ("apple", "beet")])

    def test_one_of_three_calls(self):
        meal = Meal({"beet": (5, 6), "cake": (2, 5), "egg": (1, 4)},
                    together(["beet", "egg"], 8) + together(["beet", "cake"], 9) + together(["cake", "egg"], 11),
                    [["egg", "cake", "beet"]])
        self.assertEqual(least_looks(meal), [("beet",), ("cake",), ("egg",)])

    def test_no_dishes_and_four(self):
        self.assertEqual(least_looks(Meal({})), [()])
        self.assertEqual(least_looks(Meal({}, [("clock", "clock", -1)])), [])
        names = ["a", "b", "c", "d"]
        chain = [wish for one, other in zip(names, names[1:])
                 for wish in behind(other, one, 0) + [(("done", one), ("start", other), 0)]]
        self.assertEqual(least_looks(Meal({name: (1, 2) for name in names}, chain)), [("a", "b", "c")])
        self.assertEqual(least_looks(Meal({name: (2, 2) for name in names}, chain)), [()])

    def test_a_dish_that_takes_one_number_of_minutes(self):
        # Who hangs on the tea might as well hang on what the tea hangs on.
        meal = Meal(BOUNDS, behind("rice", "tea", 0) + [(("done", "tea"), ("start", "rice"), 0)]
                    + behind("tea", "fish", 0) + [(("done", "fish"), ("start", "tea"), 0)])
        self.assertEqual(least_looks(meal), [("fish",)])
        self.assertEqual(least_looks(meal.taking("tea", 1, 2)), [("fish", "tea")])

    def test_two_meals_put_together(self):
        rng = random.Random(35)
        kinds = set()
        for one, other in itertools.product(self.halves(rng, "apple", "cake"), self.halves(rng, "beet", "dill")):
            joins = {tuple(sorted(mine + yours)) for mine in least_looks(one) for yours in least_looks(other)}
            self.assertEqual(least_looks(one + other), sorted(joins, key=lambda chosen: (len(chosen), chosen)))
            kinds.add(tuple(sorted(len(chosen) for chosen in joins)))
        self.assertLessEqual({(), (0,), (1,), (1, 1), (2,), (2, 2), (2, 2, 2, 2)}, kinds)

    def halves(self, rng, *names):
        either = Meal(dict(zip(names, [(3, 5), (2, 6)])), together(names, 6), [names])
        return [either] + calling_meals(rng, list(names), 6) + small_meals(rng, list(names), 3)

    def test_numbers_of_nine_digits(self):
        most = 999999999
        meal = Meal({"a": (1, most), "b": (2, most), "c": (most, most)},
                    behind("b", "a", most) + [(("done", "a"), ("start", "b"), most)])
        self.assertEqual(least_looks(meal), [("a",)])
        self.assertEqual(least_looks(meal.more(keeping("b", ["c"], -2 * most))), [("a",)])
        self.assertEqual(least_looks(meal.more(ready_by(["b"], most))), [])

    def test_returned_lists_are_new(self):
        found = least_looks(CHAIN)
        found.clear()
        self.assertEqual(least_looks(CHAIN), [("fish", "rice")])
        looks = ["fish", "fish"]
        self.assertTrue(enough(CALLED, looks))
        self.assertEqual(looks, ["fish", "fish"])

    def test_many_calls_come_back_soon(self):
        rng = random.Random(36)
        names = ["apple", "beet", "cake", "dill"]
        started = time.process_time()
        for _ in range(20):
            bounds = {name: (rng.randint(1, 10 ** 8), rng.randint(10 ** 8, 10 ** 9 - 1)) for name in names}
            wished = together(names, rng.randint(10 ** 8, 2 * 10 ** 9)) + ready_by(names, rng.randint(10 ** 8, 10 ** 9))
            meal = Meal(bounds, rng.sample(wished, 12), [names[:3]] * rng.randint(0, 1))
            for looks in least_looks(meal):
                self.assertIsNotNone(book_for(meal, looks))
        self.assertLess(time.process_time() - started, 30)


class InPlace(unittest.TestCase):
    def test_one_in_the_place_of_another(self):
        self.assertIs(in_place(CALLED, ["rice"], "rice", "fish"), True)
        self.assertIs(in_place(CALLED, ["fish"], "fish", "rice"), False)
        self.assertIs(in_place(CALLED, ["fish"], "fish", "fish"), True)
        self.assertIs(in_place(CHAIN, ("tea", "rice"), "tea", "fish"), True)
        self.assertIs(in_place(CHAIN, ["fish", "rice"], "rice", "fish"), False)
        self.assertIs(in_place(meal=CHAIN, looks=["fish", "tea"], look="tea", other="rice"), True)

    def test_a_look_that_stands_twice(self):
        self.assertIs(in_place(CALLED, ["fish", "tea", "fish"], "fish", "rice"), False)
        self.assertIs(in_place(CALLED, ["tea", "rice", "tea"], "tea", "fish"), True)

    def test_against_all_sets(self):
        rng = random.Random(37)
        both = set()
        names = ["ham", "soup", "tea"]
        for meal in calling_meals(rng, names, 15) + small_meals(rng, names, 10, longest=4, most=5):
            for looks in all_looks(meal):
                for look, other in itertools.product(looks, meal):
                    wanted = has_book(meal, {*looks, other} - ({look} - {other}))
                    before = list(looks)
                    self.assertEqual(in_place(meal, looks, look, other), wanted)
                    self.assertEqual(looks, before)
                    both.add(wanted)
        self.assertEqual(both, {True, False})

    def check(self, looks, look, other, name):
        with self.assertRaises(NoDish) as caught:
            in_place(CALLED, looks, look, other)
        self.assertEqual(repr(caught.exception.name), repr(name))

    def test_looks_then_look_then_other(self):
        for thing in any_objects() + ["pie", ["fish"], ("fish",), True]:
            self.check(["fish", thing, "pie"], "fish", "rice", thing)
            self.check([thing], thing, None, thing)
            self.check(["fish", thing], "tea", [], thing)
            self.check(["fish"], thing, "rice", thing)
            self.check(("fish", "tea"), thing, {}, thing)
            self.check(["fish"], "fish", thing, thing)
            self.check(["fish"], "rice", thing, "rice")
            self.check([], "fish", thing, "fish")

    def test_a_dish_that_is_none_of_the_looks(self):
        self.check(["fish"], "tea", "fish", "tea")
        self.check([], "tea", "fish", "tea")
        self.check((), "clock", "clock", "clock")
        self.check(["fish"], "fish", "clock", "clock")


if __name__ == "__main__":
    unittest.main()
