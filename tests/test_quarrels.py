"""Point 39: wishes that quarrel, and those that are at peace."""

import itertools
import random
import time
import unittest

from cookcalls.errors import Unlike
from cookcalls.hangings import Hanging
from cookcalls.meals import Meal, behind, keeping, ready_by, together
from cookcalls.quarrels import peaces, quarrels
from cookcalls.waiting import earliest, ring
from tests.trees import least_of
from tests.trying import all_rows, some_meal, some_rows, suits

BOUNDS = {"fish": (2, 5), "rice": (3, 4), "tea": (1, 1)}
CLOCKED = Hanging({name: "clock" for name in BOUNDS})
ORDER = {"key": lambda chosen: (len(chosen), chosen)}


def sets_of(indexes):
    """Yield all sets, as ascending tuples."""
    for many in range(len(indexes) + 1):
        yield from itertools.combinations(indexes, many)


def greatest_of(sets):
    """Return those of the sets that are part of no other one, ordered as the document tells."""
    return sorted([chosen for chosen in sets if not any(set(chosen) < set(more) for more in sets)], **ORDER)


def some_hanging(rng, meal):
    return Hanging({name: hook for name, (hook, wait) in some_rows(rng, list(meal), 0).items()})


class Checks(unittest.TestCase):
    def check(self, meal, hanging, kept=None):
        """Hold both lists against all sets of wishes."""
        indexes = range(len(meal.wishes()))
        kept = kept or (lambda part: earliest(part, hanging) is not None)
        at_peace = [chosen for chosen in sets_of(indexes)
                    if kept(Meal(meal.dishes(), [meal.wishes()[index] for index in chosen]))]
        quarrelling = [chosen for chosen in sets_of(indexes) if chosen not in at_peace]
        self.assertEqual(quarrels(meal, hanging), least_of(quarrelling))
        self.assertEqual(peaces(meal, hanging), greatest_of(at_peace))
        return quarrels(meal, hanging), peaces(meal, hanging)


class Quarrels(Checks):
    def test_two_wishes_that_quarrel(self):
        meal = Meal(BOUNDS, ready_by(["fish", "rice"], 5) + behind("rice", "fish", 0) + [("clock", ("done", "tea"), 0)])
        found = self.check(meal, CLOCKED)
        self.assertEqual(found, ([(3,), (1, 2)], [(0, 1), (0, 2)]))
        self.assertEqual(quarrels(meal=meal, hanging=CLOCKED), [(3,), (1, 2)])
        self.assertEqual(peaces(meal=meal, hanging=CLOCKED), [(0, 1), (0, 2)])
        hanging = Hanging({"fish": "clock", "rice": "fish", "tea": "clock"})
        self.assertEqual(self.check(meal, hanging), ([(1,), (3,)], [(0, 2)]))

    def test_three_wishes_each_two_of_which_are_at_peace(self):
        meal = Meal(BOUNDS, behind("rice", "fish", 3) + behind("tea", "rice", 3) + keeping("fish", ["tea"], 12))
        self.assertEqual(self.check(meal, CLOCKED), ([(0, 1, 2)], [(0, 1), (0, 2), (1, 2)]))
        self.assertEqual(self.check(meal, Hanging({"fish": "clock", "rice": "fish", "tea": "rice"})),
                         ([], [(0, 1, 2)]))

    def test_sets_with_fewer_wishes_come_first(self):
        # One wish is broken by itself; the first one quarrels with each of the other two.
        meal = Meal(BOUNDS, [("clock", ("done", "fish"), 5), (("start", "fish"), "clock", -1),
                             (("done", "fish"), "clock", -3), ("clock", "clock", -1)])
        self.assertEqual(self.check(meal, CLOCKED), ([(3,), (0, 1), (0, 2)], [(0,), (1, 2)]))

    def test_no_wishes_no_dishes_and_all_at_peace(self):
        self.assertEqual(self.check(Meal(BOUNDS), CLOCKED), ([], [()]))
        self.assertEqual(self.check(Meal({}), Hanging({})), ([], [()]))
        self.assertEqual(self.check(Meal({}, [("clock", "clock", -1)]), Hanging({})), ([(0,)], [()]))
        self.assertEqual(self.check(Meal({}, [("clock", "clock", 0)]), Hanging({})), ([], [(0,)]))
        self.assertEqual(self.check(Meal(BOUNDS, together(["fish", "rice"], 9)), CLOCKED), ([], [(0, 1)]))

    def test_the_same_wish_twice(self):
        meal = Meal(BOUNDS, ready_by(["fish", "fish"], 4))
        self.assertEqual(self.check(meal, CLOCKED), ([(0,), (1,)], [()]))
        meal = Meal(BOUNDS, ready_by(["fish", "fish"], 5) + behind("fish", "rice", 0))
        self.assertEqual(self.check(meal, CLOCKED), ([(0, 2), (1, 2)], [(2,), (0, 1)]))

    def test_stations_count_for_nothing(self):
        meal = Meal(BOUNDS, ready_by(["fish", "rice", "tea"], 5), [["fish", "rice", "tea"]])
        self.assertEqual(self.check(meal, CLOCKED), ([], [(0, 1, 2)]))

    def test_against_all_sets_of_wishes(self):
        rng = random.Random(39)
        kinds = set()
        for _ in range(80):
            meal = some_meal(rng, ["ham", "rice", "tea"], longest=6, wishes=8, most=14)
            found = self.check(meal, some_hanging(rng, meal))
            kinds.update(len(chosen) for chosen in found[0])
        self.assertLessEqual({1, 2, 3}, kinds)

    def test_against_all_books_and_all_times(self):
        rng = random.Random(391)
        for _ in range(40):
            meal = some_meal(rng, ["ham", "tea"], longest=3, wishes=4, most=4)
            hanging = some_hanging(rng, meal)
            books = list(all_rows(hanging.rows(), 9))
            self.check(meal, hanging, lambda part: any(suits(part, rows) for rows in books))


class FromOneAnother(Checks):
    def some(self, seed, many):
        rng = random.Random(seed)
        names = ["ale", "bun", "cod", "dal", "eel", "fig"]
        for _ in range(many):
            meal = some_meal(rng, rng.sample(names, rng.randint(1, 6)), longest=9, wishes=8, most=15)
            yield meal, some_hanging(rng, meal)

    def test_the_peaces_are_what_is_left_of_all_without_what_meets_each_quarrel(self):
        for meal, hanging in self.some(392, 60):
            indexes = set(range(len(meal.wishes())))
            meeting = least_of([chosen for chosen in sets_of(sorted(indexes))
                                if all(set(chosen) & set(quarrel) for quarrel in quarrels(meal, hanging))])
            left = [tuple(sorted(indexes - set(chosen))) for chosen in meeting]
            self.assertEqual(peaces(meal, hanging), sorted(left, **ORDER))

    def test_the_quarrels_are_what_meets_all_that_each_peace_leaves_out(self):
        for meal, hanging in self.some(393, 60):
            indexes = set(range(len(meal.wishes())))
            meeting = [chosen for chosen in sets_of(sorted(indexes))
                       if all(set(chosen) & (indexes - set(peace)) for peace in peaces(meal, hanging))]
            self.assertEqual(quarrels(meal, hanging), least_of(meeting))

    def test_the_wishes_of_a_ring_have_a_quarrel_among_them(self):
        rings = 0
        for meal, hanging in self.some(394, 80):
            found = ring(meal, hanging)
            if found is not None:
                rings += 1
                wished = {which for kind, which in found if kind == "wish"}
                self.assertTrue(any(set(quarrel) <= wished for quarrel in quarrels(meal, hanging)))
            self.assertEqual(found is None, quarrels(meal, hanging) == [])
        self.assertGreater(rings, 20)

    def test_numbers_of_nine_digits_come_back_soon(self):
        rng = random.Random(395)
        names = ["ale", "bun", "cod", "dal", "eel", "fig"]
        started = time.process_time()
        for _ in range(10):
            bounds = {name: (rng.randint(1, 10 ** 8), rng.randint(10 ** 8, 10 ** 9 - 1)) for name in names}
            wished = together(names[:4], 10 ** 9 - 1) + ready_by(names, 10 ** 9 - 1) + behind("ale", "fig", 10 ** 9 - 1)
            hanging = Hanging(dict(zip(names, ["clock", "ale", "clock", "cod", "dal", "bun"])))
            self.check(Meal(bounds, rng.sample(wished, 8)), hanging)
        self.assertLess(time.process_time() - started, 30)


class Kinds(unittest.TestCase):
    def test_returned_lists_are_new(self):
        meal = Meal(BOUNDS, ready_by(["fish", "rice"], 3))
        for function in (quarrels, peaces):
            found = function(meal, CLOCKED)
            before = list(found)
            self.assertIsInstance(found[0], tuple)
            found.clear()
            self.assertEqual(function(meal, CLOCKED), before)

    def test_unlike(self):
        for function in (quarrels, peaces):
            for rows in ({}, {"fish": "clock"}, {**CLOCKED.rows(), "pie": "clock"},
                         {"fish": "clock", "rice": "fish", "pie": "fish"}):
                self.assertRaises(Unlike, function, Meal(BOUNDS), Hanging(rows))
                self.assertRaises(Unlike, function, Meal(BOUNDS, ready_by(["fish"], 0)), Hanging(rows))
            self.assertRaises(Unlike, function, Meal({}), CLOCKED)


if __name__ == "__main__":
    unittest.main()
