"""Points 32 to 34: how tight a wish, how soon dishes, and how close together they can surely be."""

import itertools
import random
import time
import unittest

from cookcalls.bounds import closest, least_most, soonest
from cookcalls.errors import NoDish, NoWish
from cookcalls.judging import is_right
from cookcalls.meals import Meal, behind, keeping, ready_by, together
from cookcalls.seeking import book_for
from tests.things import any_objects
from tests.trees import (all_looks, calling_meals, has_book, least_by_rings, small_meals, tight_meal,
                         with_most)
from tests.trying import all_hooks, all_rows, all_times, behind_by, minute, right, some_meal

BOUNDS = {"fish": (2, 5), "rice": (3, 4), "tea": (1, 1)}
TWO = Meal({"rice": (10, 12), "fish": (5, 9)}, together(["rice", "fish"], 4))
BY_WISHES = Meal(BOUNDS, together(["fish", "rice"], 1))
BY_STATION = Meal({"fish": (2, 2), "tea": (2, 2)}, ready_by(["fish", "tea"], 3), [["fish", "tea"]])
BY_BOTH = Meal(BOUNDS, together(["fish", "rice", "tea"], 4), [["fish", "rice", "tea"]])
# One pan: the later one is done as long behind the earlier one as it takes, or as both times may differ.
PAN = Meal({"beet": (3, 5), "cake": (2, 6)}, (), [["cake", "beet"]])
FOUR = ["apple", "beet", "cake", "dill"]


def right_books(meal, looks, top):
    """Return the rows of all right books in which no dish waits longer than the top."""
    hooks = all_hooks(list(meal), meal if looks is None else looks)
    return [rows for hung in hooks for rows in all_rows(hung, top) if right(meal, rows)]


def least_over_books(meal, books, measured):
    """Return the least of the books' greatest numbers over all times, None if there is no book."""
    return min([max(measured(rows, times) for times in all_times(meal)) for rows in books], default=None)


def last_done(names):
    return lambda rows, times: max([minute(rows, times, ("done", name)) for name in names], default=0)


def done_within(names):
    def measured(rows, times):
        dones = [minute(rows, times, ("done", name)) for name in names]
        return max(dones, default=0) - min(dones, default=0)
    return measured


class LeastMost(unittest.TestCase):
    def test_the_least_most_of_a_wish(self):
        for index in (0, 1):
            self.assertEqual(least_most(TWO, index), 2)
        self.assertEqual(least_most(TWO.less(1), 0), "any")
        meal = Meal(BOUNDS, ready_by(["fish", "rice"], 20) + behind("rice", "fish", 2) + keeping("tea", ["rice"], -3))
        self.assertEqual([least_most(meal, index) for index in range(4)], [5, 11, -11, "any"])
        self.assertEqual(least_most(meal=meal, index=1, looks=[]), 11)

    def test_its_own_number_counts_no_more(self):
        for most in (-999999999, -3, 0, 4, 999999999):
            meal = Meal(BOUNDS, [("clock", ("done", "fish"), most)] + behind("fish", "rice", 1))
            self.assertEqual(least_most(meal, 0), 10)
            meal = Meal(BOUNDS, [("clock", ("done", "fish"), 12), (("start", "fish"), ("done", "rice"), most)])
            self.assertEqual(least_most(meal, 1), -3)
            self.assertEqual(least_most(Meal(BOUNDS, [("clock", "clock", most)]), 0), 0)
            self.assertEqual(least_most(Meal({}, [("clock", "clock", most)]), 0), 0)

    def test_one_moment_or_one_dish_alone(self):
        for wish, least in (((("start", "fish"), ("done", "fish")), 5), ((("done", "fish"), ("start", "fish")), -2),
                            ((("start", "fish"), ("start", "fish")), 0), ((("done", "tea"), ("start", "tea")), -1)):
            self.assertEqual(least_most(Meal(BOUNDS, [(*wish, 7)]), 0), least)

    def test_any_and_none(self):
        # The fish may start as late as one likes, the rice then as well.
        for most in (3, -3):
            meal = Meal(BOUNDS, [(("done", "fish"), ("done", "rice"), most), (("done", "rice"), "clock", -9)])
            self.assertEqual(least_most(meal, 0), "any")
            self.assertEqual(least_most(meal, 1), "any")
            self.assertEqual(least_most(meal.more([("clock", ("done", "fish"), 20)]), 0), -7)
        meal = Meal(BOUNDS, [("clock", "clock", -1), ("clock", ("done", "fish"), 20)])
        self.assertIsNone(least_most(meal, 1))
        self.assertEqual(least_most(meal, 0), 0)
        self.assertIsNone(least_most(Meal({}, [("clock", "clock", -1), ("clock", "clock", 5)]), 1))
        self.assertIsNone(least_most(TWO.more(together(["rice", "fish"], 2)), 1))

    def test_no_right_book_by_wishes_by_a_station_and_by_both(self):
        for meal in (BY_WISHES, BY_STATION, BY_BOTH):
            for looks in [None, *all_looks(meal)]:
                self.assertIsNone(least_most(meal.more(ready_by(["fish"], 9)), len(meal.wishes()), looks))
        self.assertEqual(least_most(BY_WISHES, 0), 3)
        self.assertEqual(least_most(BY_STATION, 1), 4)

    def test_looks(self):
        # The rice starts at most so long behind the call of the fish, and never ahead of it.
        meal = Meal(BOUNDS, behind("rice", "fish", 0) + [(("done", "fish"), ("start", "rice"), 9)])
        for looks, least in ((None, 0), (["fish"], 0), ([], 3), (["rice", "tea"], 3), (("tea", "fish", "fish"), 0)):
            self.assertEqual(least_most(meal, 1, looks), least)
        meal = meal.more([("clock", "clock", -1)])
        self.assertIsNone(least_most(meal, 1, ["fish"]))

    def test_against_all_rings_of_all_trees_and_orders(self):
        rng = random.Random(321)
        kinds = {}
        meals = [some_meal(rng, list("abc"), longest=4, wishes=4, most=7) for _ in range(60)]
        meals += [tight_meal(rng, list("ab")) for _ in range(20)] + [tight_meal(rng, list("abc")) for _ in range(10)]
        for meal in meals:
            looks = rng.choice([None, [], ["b"], ["a", "c"][:len(meal) - 1]])
            for index in range(len(meal.wishes())):
                found = least_most(meal, index, looks)
                wanted = least_by_rings(meal, [index], -1000, looks)
                self.assertEqual(found, "any" if wanted == -1000 else wanted)
                kinds.setdefault("a number" if isinstance(found, int) else found, []).append(meal)
        self.assertEqual(set(kinds), {"a number", "any", None})
        self.assertGreater(min(len(meals) for meals in kinds.values()), 20)

    def test_a_right_book_at_this_number_and_none_at_one_less(self):
        rng = random.Random(322)
        kinds = set()
        for at in range(80):
            names = FOUR[:rng.randint(1, 4)]
            meal = some_meal(rng, names, longest=9, wishes=10, most=18)
            for index in range(len(meal.wishes())):
                found = least_most(meal, index)
                kinds.add("a number" if isinstance(found, int) else found)
                if found is None:
                    self.assertFalse(has_book(meal.less(index), None))
                    continue
                self.assertIsNotNone(book_for(with_most(meal, index, -10 ** 9 if found == "any" else found)))
                if found != "any":
                    self.assertFalse(has_book(with_most(meal, index, found - 1), None))
        self.assertEqual(kinds, {"a number", "any", None})

    def test_against_all_books_and_all_times(self):
        rng = random.Random(323)
        kinds = set()
        for _ in range(40):
            meal = some_meal(rng, ["ham", "tea"], wishes=3, most=4)
            for index, (one, other, most) in enumerate(meal.wishes()):
                looks = rng.choice([None, ["ham"], []])
                found = least_most(meal, index, looks)
                books = right_books(meal.less(index), looks, 9)
                wanted = least_over_books(meal, books, lambda rows, times: behind_by(rows, times, one, other))
                # Books that wait longer may come further down, as far as one likes.
                self.assertEqual(found is None, wanted is None)
                if found == "any":
                    self.assertLess(wanted, 0)
                elif found is not None:
                    self.assertEqual(found, wanted)
                kinds.add("a number" if isinstance(found, int) else found)
        self.assertEqual(kinds, {"a number", "any", None})

    def test_numbers_of_nine_digits(self):
        most = 999999999
        meal = Meal({name: (1, most) for name in FOUR}, [wish for one, other in zip(FOUR, FOUR[1:]) for wish in
                                                         behind(other, one, most)] + ready_by(["dill"], most))
        self.assertEqual(least_most(meal, 3), 7 * most)
        self.assertEqual(least_most(meal, 3, []), 7 * most)
        self.assertIsNone(least_most(meal, 0))
        meal = with_most(meal, 3, 7 * most + 5)
        self.assertEqual([least_most(meal, index) for index in range(4)], [-most - 5] * 3 + [7 * most])
        self.assertEqual(least_most(meal.less(3), 0), "any")

    def test_indexes_that_are_none(self):
        for thing in any_objects() + [2, -1, -2, "0", [0], (1,)]:
            if not isinstance(thing, bool) and thing in (0, 1):
                continue
            for looks in (None, [], ["pie"], [None]):
                with self.assertRaises(NoWish) as caught:
                    least_most(TWO, thing, looks)
                self.assertEqual(repr(caught.exception.index), repr(thing))
        self.assertRaises(NoWish, least_most, Meal({}), 0)
        self.assertRaises(NoWish, least_most, Meal(BOUNDS), 0, ["pie"])

    def test_looks_that_are_no_dish(self):
        for thing in any_objects() + ["pie", ["fish"], ("fish",), True]:
            for looks in ([thing], ["fish", thing, "pie"], ("rice", thing, None)):
                with self.assertRaises(NoDish) as caught:
                    least_most(TWO, 1, looks)
                self.assertEqual(repr(caught.exception.name), repr(thing))


class Soonest(unittest.TestCase):
    def test_the_least_minute(self):
        self.assertEqual(soonest(TWO, ["rice"]), 12)
        self.assertEqual(soonest(TWO, ["fish"]), 12)
        self.assertEqual(soonest(meal=TWO, names=("rice", "fish")), 12)
        self.assertEqual(soonest(Meal(BOUNDS), ["tea", "fish"]), 5)
        self.assertEqual(soonest(PAN, ["beet", "cake"]), 11)
        self.assertEqual([soonest(PAN, [name]) for name in ("beet", "cake")], [5, 6])
        meal = PAN.more([(("done", "beet"), "clock", -20)])
        self.assertEqual([soonest(meal, [name]) for name in ("beet", "cake")], [22, 6])
        self.assertEqual(soonest(meal, ["beet", "cake"]), 22)

    def test_a_call_makes_it_sooner(self):
        # The rice is done at most 4 minutes behind the fish, but starts behind it; so does the tea behind the rice.
        meal = Meal(BOUNDS, behind("rice", "fish", 0) + keeping("fish", ["rice"], 6) + behind("tea", "rice", 3))
        for looks, least in ((None, 13), (["fish"], 13), ([], None), (["rice"], None)):
            self.assertEqual(soonest(meal, ["tea"], looks), least)
        loose = Meal(BOUNDS, behind("rice", "fish", 0) + keeping("fish", ["rice"], 8))
        self.assertEqual([soonest(loose, ["rice", "fish"], looks) for looks in (None, [])], [9, 9])

    def test_against_all_books_and_all_times(self):
        rng = random.Random(331)
        for at in range(40):
            meal = tight_meal(rng, ["ham", "tea"], 3) if at % 2 else some_meal(rng, ["ham", "tea"], wishes=3, most=5)
            looks = rng.choice([None, ["ham"], []])
            books = right_books(meal, looks, 9)
            for names in all_looks(meal):
                self.assertEqual(soonest(meal, names, looks), least_over_books(meal, books, last_done(names)))

    def test_a_ring_asks_for_a_minute(self):
        rng = random.Random(332)
        for meal in small_meals(rng, list("abc"), 12, longest=5, wishes=4, most=9) + calling_meals(rng, list("abc"), 8):
            names = rng.sample(list("abc"), rng.randint(1, 3))
            looks = rng.choice([None, [], ["a", "c"]])
            wider = meal.more(ready_by(names, 0))
            asked = range(len(meal.wishes()), len(wider.wishes()))
            self.assertEqual(soonest(meal, names, looks), least_by_rings(wider, asked, 0, looks))


class Closest(unittest.TestCase):
    def test_the_least_number_of_minutes(self):
        self.assertEqual(closest(TWO, ["rice", "fish"]), 3)
        self.assertEqual(closest(meal=TWO, names=["fish", "rice"], looks=["fish"]), 3)
        self.assertEqual(closest(PAN, ["beet", "cake"]), 5)
        self.assertEqual(closest(PAN, ("cake", "beet"), []), 8)
        self.assertEqual([closest(PAN, ["cake", "beet"], looks) for looks in (["cake"], ["beet"])], [5, 6])
        self.assertEqual(closest(Meal(BOUNDS), ["tea", "rice"]), 1)
        self.assertEqual(closest(Meal(BOUNDS), ["fish", "tea", "rice"]), 2)
        self.assertEqual(closest(Meal({"a": (3, 3), "b": (5, 5)}), ["a", "b"]), 0)

    def test_fractions_are_rounded_up(self):
        # Two rows share what a ring lacks: half of the times' bounds taken together.
        for wide, least in ((1, 1), (2, 1), (3, 2), (4, 2), (5, 3)):
            self.assertEqual(closest(Meal({"a": (1, 1 + wide), "b": (9, 9)}), ["a", "b"]), least)
            self.assertEqual(closest(Meal({"a": (1, 1 + wide), "b": (9, 10)}), ["a", "b"]), (wide + 2) // 2)

    def test_against_all_books_and_all_times(self):
        rng = random.Random(333)
        none = 0
        for at in range(40):
            meal = tight_meal(rng, ["ham", "tea"], 3) if at % 2 else some_meal(rng, ["ham", "tea"], wishes=3, most=5)
            looks = rng.choice([None, ["ham"], []])
            books = right_books(meal, looks, 9)
            none += not books
            for names in all_looks(meal):
                self.assertEqual(closest(meal, names, looks), least_over_books(meal, books, done_within(names)))
        self.assertTrue(5 < none < 35, none)

    def test_the_greatest_of_the_fractions_for_which_rings_ask(self):
        rng = random.Random(334)
        meals = small_meals(rng, list("abc"), 8, longest=5, wishes=3, most=9) + calling_meals(rng, list("abc"), 6)
        for meal in meals + [Meal(tight_meal(rng, list("abc")).dishes(), (), [list("abc")]) for _ in range(3)]:
            names = rng.sample(list("abc"), rng.randint(2, 3))
            looks = rng.choice([None, [], ["a", "c"]])
            wider = meal.more(together(names, 0))
            asked = range(len(meal.wishes()), len(wider.wishes()))
            self.assertEqual(closest(meal, names, looks), least_by_rings(wider, asked, 0, looks))


class Both(unittest.TestCase):
    """What holds of soonest and of closest."""

    def test_no_names_one_name_and_all_names(self):
        for meal in (Meal(BOUNDS), TWO, PAN, BY_WISHES, BY_STATION, BY_BOTH):
            for looks in [None, *all_looks(meal)]:
                some = book_for(meal, looks) is not None
                self.assertEqual(closest(meal, [], looks), 0 if some else None)
                self.assertEqual(soonest(meal, (), looks), 0 if some else None)
                for name in meal:
                    self.assertEqual(closest(meal, [name], looks), 0 if some else None)
                    self.assertEqual(soonest(meal, [name], looks) is None, not some)
                self.assertEqual(closest(meal, list(meal), looks) is None, not some)
        self.assertEqual(closest(Meal({}), []), 0)
        self.assertEqual(soonest(Meal({}), [], []), 0)
        self.assertIsNone(closest(Meal({}, [("clock", "clock", -1)]), []))
        self.assertIsNone(soonest(Meal({}, [("clock", "clock", -1)]), []))

    def test_a_right_book_at_this_number_and_none_at_one_less(self):
        rng = random.Random(335)
        names = FOUR
        meals = small_meals(rng, names, 8, longest=9, wishes=8, most=30) + calling_meals(rng, names, 4)
        for meal, (function, wished) in itertools.product(meals, ((soonest, ready_by), (closest, together))):
            chosen = rng.sample(names, rng.randint(1, 4))
            looks = rng.choice([None, [], FOUR[:2], FOUR])
            found = function(meal, chosen, looks)
            if found is None:
                self.assertFalse(has_book(meal, looks))
                continue
            book = book_for(meal.more(wished(chosen, found)), looks)
            self.assertTrue(is_right(meal.more(wished(chosen, found)), book))
            self.assertFalse(found > 0 and has_book(meal.more(wished(chosen, found - 1)), looks))

    def test_the_order_of_the_names_counts_for_nothing(self):
        rng = random.Random(336)
        for meal in calling_meals(rng, ["a", "b", "c"], 5):
            for function in (soonest, closest):
                self.assertEqual(len({function(meal, chosen) for chosen in itertools.permutations("abc")}), 1)

    def test_two_meals_put_together(self):
        rng = random.Random(337)
        for one, other in zip(calling_meals(rng, ["a", "b"], 6), calling_meals(rng, ["c", "d"], 6)):
            self.assertEqual(soonest(one + other, ["a", "d"]), max(soonest(one, ["a"]), soonest(other, ["d"])))
            self.assertEqual(closest(one + other, ["a", "b"]), closest(one, ["a", "b"]))
            self.assertGreaterEqual(closest(one + other, list("abcd")), closest(other, ["d", "c"]))

    def test_numbers_of_nine_digits(self):
        most = 999999999
        meal = Meal({name: (1, most) for name in FOUR}, (), [FOUR[:3]])
        self.assertEqual(soonest(meal, FOUR), 3 * most)
        self.assertEqual(soonest(meal, ["dill"]), most)
        self.assertEqual(closest(meal, ["dill", "apple"]), most - 1)
        self.assertEqual(closest(meal, FOUR[:2]), most)
        self.assertEqual(closest(meal, FOUR[:2], []), 2 * most - 1)
        meal = meal.more([(("done", "apple"), "clock", -most)])
        self.assertEqual(soonest(meal, ["apple"]), 2 * most - 1)

    def test_names_then_looks(self):
        for function in (soonest, closest):
            for thing in any_objects() + ["pie", ["fish"], ("fish",), True]:
                for names in ([thing], ["fish", thing, "pie"], (thing, None)):
                    for looks in (None, [], ["pie"], [None]):
                        with self.assertRaises(NoDish) as caught:
                            function(TWO, names, looks)
                        self.assertEqual(repr(caught.exception.name), repr(thing))
                for looks in ([thing], ["fish", thing, "pie"], ("rice", thing, None)):
                    for names in ([], ["fish"], ["rice", "fish"]):
                        with self.assertRaises(NoDish) as caught:
                            function(TWO, names, looks)
                        self.assertEqual(repr(caught.exception.name), repr(thing))

    def test_what_is_passed_is_kept(self):
        names, looks = ["rice", "fish"], ["fish", "fish"]
        for function in (soonest, closest):
            first = function(TWO, names, looks)
            self.assertEqual(function(TWO, tuple(names), tuple(looks)), first)
            self.assertEqual(function(meal=TWO, names=names, looks=looks), first)
        self.assertEqual((names, looks), (["rice", "fish"], ["fish", "fish"]))
        self.assertEqual(TWO.wishes(), together(["rice", "fish"], 4))

    def test_many_calls_come_back_soon(self):
        rng = random.Random(338)
        started = time.process_time()
        none = 0
        for _ in range(20):
            bounds = {name: (rng.randint(1, 10 ** 7), rng.randint(10 ** 7, 3 * 10 ** 8)) for name in FOUR}
            wished = together(FOUR, rng.randint(10 ** 8, 10 ** 9 - 1))
            wished += ready_by(FOUR, rng.randint(10 ** 8, 10 ** 9 - 1))
            meal = Meal(bounds, wished + rng.sample(wished, 8), [FOUR[:3]] * rng.randint(0, 1))
            self.assertEqual(closest(meal, FOUR) is None, soonest(meal, FOUR) is None)
            none += closest(meal, FOUR) is None
            for index in range(24):
                least_most(meal, index)
        self.assertTrue(2 < none < 18, none)
        self.assertLess(time.process_time() - started, 60)


if __name__ == "__main__":
    unittest.main()
