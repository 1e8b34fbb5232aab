"""Points 23 to 26: the waits that suit a meal, a hanging and orders, and the rings that show that none do."""

import itertools
import random
import unittest

from cookcalls.books import Book
from cookcalls.errors import BadOrder, NoRow, Unlike
from cookcalls.hangings import Hanging
from cookcalls.judging import most_behind, worst_times
from cookcalls.meals import Meal, behind, keeping, ready_by, together
from cookcalls.waiting import earliest, is_ring, latest, ring, row_of
from tests.things import any_objects
from tests.trying import all_hooks, all_rows, behind_by, some_meal, some_rows, suits, sums_of

MEAL = Meal({"rice": (10, 12), "fish": (5, 9), "tea": (3, 3)}, together(["rice", "fish"], 4))
HOOKS = {"fish": "clock", "rice": "clock", "tea": "rice"}
HANGING = Hanging(HOOKS)
QUARREL = MEAL.more(together(["rice", "fish"], 2))
DEEDS = (earliest, latest, ring)


def cases(seed, many, names=("ham", "tea"), orders=2, **limits):
    """Yield meals, some of which are to be ready by a minute, hangings and orders by chance."""
    rng = random.Random(seed)
    for _ in range(many):
        meal = some_meal(rng, list(names), **limits)
        if rng.random() < 0.4:
            meal = meal.more(ready_by(names, rng.randint(3, 12)))
        hanging = Book(some_rows(rng, list(meal), 0)).hanging()
        pairs = list(itertools.permutations(names, 2))
        yield meal, hanging, [rng.choice(pairs) for _ in range(rng.randint(0, orders))]


def moments_of(meal, orders, row):
    """Return the two moments of which a row speaks, and how far the second may come behind the first."""
    kind, which = row
    if kind == "wish":
        return meal.wishes()[which]
    first, later = orders[which]
    return (("start", later), ("done", first), 0)


class Checks(unittest.TestCase):
    """Holds rings against the numbers of their rows, which the document tells."""

    def check_row(self, meal, hanging, orders, row):
        """Return the ends and the number of a row, found by sums of a book of the hanging and its worst times."""
        hooks = hanging.rows()
        if row[0] == "wait":
            return (row[1], hooks[row[1]], 0)
        one, other, most = moments_of(meal, orders, row)
        book = Book({name: (hooks[name], 0) for name in hooks})
        ends = ["clock" if moment == "clock" else moment[1] for moment in (one, other)]
        return (*ends, most - most_behind(meal, book, one, other))

    def check_ring(self, meal, hanging, orders, found):
        self.assertIsInstance(found, list)
        self.assertTrue(found)
        rows = [self.check_row(meal, hanging, orders, row) for row in found]
        for row in found:
            self.assertIsInstance(row, tuple)
        for row, following in zip(rows, rows[1:] + rows[:1]):
            self.assertEqual(row[1], following[0])
        self.assertLess(sum(row[2] for row in rows), 0)
        self.assertEqual(len({row[0] for row in rows}), len(rows))
        self.assertIs(is_ring(meal, hanging, orders, found), True)


class WrongArguments(unittest.TestCase):
    def all_deeds(self, meal, hanging, orders):
        return [lambda: earliest(meal, hanging, orders), lambda: latest(meal, hanging, orders),
                lambda: ring(meal, hanging, orders), lambda: is_ring(meal, hanging, orders, None),
                lambda: is_ring(meal, hanging, orders, [("wait", "rice")]),
                lambda: row_of(meal, hanging, orders, None), lambda: row_of(meal, hanging, orders, ("wait", "rice"))]

    def test_unlike_ahead_of_all_else(self):
        for hooks in ({}, {"rice": "clock"}, {"fish": "clock", "rice": "clock", "pie": "rice"}, {**HOOKS, "zest": "clock"}):
            for orders in ([], [("rice", "rice")], None):
                for deed in self.all_deeds(MEAL, Hanging(hooks), orders):
                    self.assertRaises(Unlike, deed)
        for deed in DEEDS:
            self.assertRaises(Unlike, deed, Meal({}), HANGING)
            self.assertRaises(Unlike, deed, MEAL, Hanging({}))

    def test_orders_that_are_no_list(self):
        for thing in any_objects() + ["ab", {0: ("rice", "tea")}]:
            if not isinstance(thing, (list, tuple)):
                for deed in self.all_deeds(MEAL, HANGING, thing):
                    with self.assertRaises(BadOrder) as caught:
                        deed()
                    self.assertEqual(caught.exception.index, 0)

    def test_orders_that_are_none(self):
        wrong = any_objects() + [("rice", "rice"), ("rice", "clock"), ("clock", "rice"), ("rice",), ("rice", "tea", "fish"),
                                 ("rice", ["tea"]), "ri", {"rice": "tea", "tea": "rice"}, ("rice", True)]
        for thing in wrong:
            for index in range(3):
                orders = [("rice", "tea")] * index + [thing, ("tea", "tea")]
                for deed in self.all_deeds(MEAL, HANGING, orders) + self.all_deeds(MEAL, HANGING, tuple(orders)):
                    with self.assertRaises(BadOrder) as caught:
                        deed()
                    self.assertEqual(caught.exception.index, index)


class Rows(Checks):
    def test_ends_and_numbers(self):
        meal = MEAL.more(behind("tea", "fish", 2) + ready_by(["tea"], 30) + keeping("fish", ["fish"], 0))
        meal = meal.more([("clock", "clock", -4), (("done", "tea"), "clock", -16), (("start", "rice"), ("done", "tea"), 7)])
        orders = [("fish", "tea"), ["tea", "fish"], ("rice", "tea"), ("tea", "rice")]
        for row, found in (
                (("wait", "rice"), ("rice", "clock", 0)), (("wait", "tea"), ("tea", "rice", 0)),
                (("wish", 0), ("rice", "fish", 4 - 9 + 10)), (("wish", 1), ("fish", "rice", 4 - 12 + 5)),
                (("wish", 2), ("tea", "fish", -2 - 9 + 10)), (("wish", 3), ("clock", "tea", 30 - 12 - 3)),
                (("wish", 4), ("fish", "fish", 0)), (("wish", 5), ("clock", "clock", -4)),
                (("wish", 6), ("tea", "clock", -16 + 10 + 3)), (("wish", 7), ("rice", "tea", 7 - 12 - 3)),
                (("order", 0), ("tea", "fish", -9 + 10)), (("order", 1), ("fish", "tea", -12 - 3)),
                (("order", 2), ("tea", "rice", 0)), (("order", 3), ("rice", "tea", -12 - 3))):
            self.assertEqual(row_of(meal, HANGING, orders, row), found, row)
            self.assertEqual(row_of(meal=meal, hanging=HANGING, orders=tuple(orders), row=list(row)), found, row)
            self.assertIsInstance(row_of(meal, HANGING, orders, row), tuple)

    def test_against_worst_times(self):
        for meal, hanging, orders in cases(23, 60, ("ham", "tea", "rice"), orders=4):
            rows = {name: (hook, 0) for name, hook in hanging.rows().items()}
            for row in [("wish", index) for index in range(len(meal.wishes()))] + \
                    [("order", index) for index in range(len(orders))]:
                one, other, most = moments_of(meal, orders, row)
                times = worst_times(meal, Book(rows), one, other)
                ends = ["clock" if moment == "clock" else moment[1] for moment in (one, other)]
                # Without waits, what is left of the most is the number.
                self.assertEqual(row_of(meal, hanging, orders, row), (*ends, most - behind_by(rows, times, one, other)))

    def test_objects_that_are_no_rows(self):
        orders = [("rice", "tea"), ("tea", "rice")]
        wrong = any_objects() + [
            ("wait", "pie"), ("wait", "clock"), ("wait", 0), ("wait", ["rice"]), ("wait",), ("wait", "rice", 0), "wait",
            ("wish", 2), ("wish", -1), ("wish", True), ("wish", "0"), ("wish", None), ("wish", [0]), ("wish", (0,)),
            ("wish", 0, 0), ("wish",), ("order", 2), ("order", -1), ("order", False), ("order", ("rice", "tea")),
            ("order", {}), ("order",), ("Wish", 0), ("wishes", 0), (0, "wish"), [["wish", 0]], (["wish"], 0),
            {"wish": 0}, ("rice", "clock", 0), (("wait", "rice"), ("wait", "tea"))]
        for thing in wrong:
            with self.assertRaises(NoRow) as caught:
                row_of(MEAL, HANGING, orders, thing)
            self.assertEqual(repr(caught.exception.row), repr(thing))
        for thing in (("wish", 0), ("order", 0), ("wait", "rice")):
            self.assertRaises(NoRow, row_of, Meal({}), Hanging({}), [], thing)
        self.assertRaises(NoRow, row_of, MEAL, HANGING, (), ("order", 0))


class Suiting(Checks):
    def test_the_example_of_the_document(self):
        meal = Meal({"rice": (10, 12), "fish": (5, 9)}, together(["rice", "fish"], 4))
        self.assertEqual(earliest(meal, Hanging({"rice": "clock", "fish": "clock"})).rows(),
                         {"fish": ("clock", 3), "rice": ("clock", 0)})

    def test_earliest_and_latest(self):
        self.assertEqual(earliest(MEAL, HANGING).rows(), {"fish": ("clock", 3), "rice": ("clock", 0), "tea": ("rice", 0)})
        self.assertEqual(latest(MEAL, HANGING), {"fish": None, "rice": None, "tea": None})
        meal = MEAL.more(ready_by(["rice"], 20))
        self.assertEqual(latest(meal, HANGING), {"fish": 13, "rice": 8, "tea": None})
        self.assertEqual(list(latest(meal, HANGING)), ["fish", "rice", "tea"])
        self.assertEqual(latest(meal.more(ready_by(["tea"], 17)), HANGING), {"fish": 7, "rice": 2, "tea": 2})
        self.assertEqual(earliest(meal=meal, hanging=HANGING), earliest(MEAL, HANGING))
        self.assertEqual(latest(meal=meal, hanging=HANGING), latest(meal, HANGING))
        self.assertIsNone(ring(meal=meal, hanging=HANGING))
        self.assertIsInstance(earliest(MEAL, HANGING), Book)

    def test_orders(self):
        self.assertEqual(earliest(MEAL, HANGING, [("fish", "tea")]).rows(),
                         {"fish": ("clock", 3), "rice": ("clock", 0), "tea": ("rice", 2)})
        self.assertEqual(earliest(MEAL, HANGING, (["rice", "tea"],)), earliest(MEAL, HANGING))
        self.assertEqual(earliest(Meal(MEAL.dishes()), HANGING, orders=[("rice", "fish")]).rows(),
                         {"fish": ("clock", 12), "rice": ("clock", 0), "tea": ("rice", 0)})
        for orders in ([("tea", "rice")], [("rice", "fish"), ("fish", "rice")], [("rice", "fish")]):
            self.assertIsNone(earliest(MEAL, HANGING, orders))
            self.assertIsNone(latest(MEAL, HANGING, orders))
            self.check_ring(MEAL, HANGING, orders, ring(MEAL, HANGING, orders))
        self.assertEqual(sorted(ring(MEAL, HANGING, [("tea", "rice")])), [("order", 0), ("wait", "tea")])

    def test_stations_are_asked_of_by_orders_alone(self):
        meal = Meal(MEAL.dishes(), (), [["rice", "fish"], ["rice", "fish", "tea"]])
        self.assertEqual(earliest(meal, HANGING), Book({name: (HOOKS[name], 0) for name in HOOKS}))
        self.assertIsNone(ring(meal, HANGING))

    def test_no_dishes(self):
        for orders in ((), []):
            self.assertEqual(earliest(Meal({}), Hanging({}), orders), Book({}))
            self.assertEqual(latest(Meal({}), Hanging({}), orders), {})
            self.assertIsNone(ring(Meal({}), Hanging({}), orders))
        meal = Meal({}, [("clock", "clock", 0), ("clock", "clock", -1)])
        self.assertIsNone(earliest(meal, Hanging({})))
        self.assertIsNone(latest(meal, Hanging({})))
        self.assertEqual(ring(meal, Hanging({})), [("wish", 1)])

    def test_a_dish_that_contradicts_itself(self):
        for wish, suited in (
                ((("done", "tea"), ("done", "tea"), -1), False), ((("start", "tea"), ("done", "tea"), 2), False),
                ((("start", "tea"), ("done", "tea"), 3), True), ((("done", "tea"), ("start", "tea"), -4), False),
                ((("done", "tea"), ("start", "tea"), -3), True), ((("start", "rice"), ("done", "rice"), 11), False),
                ((("done", "rice"), ("start", "rice"), -11), False), ((("start", "tea"), ("start", "tea"), 0), True)):
            meal = MEAL.more([wish])
            self.assertEqual(earliest(meal, HANGING) is not None, suited)
            self.assertEqual(latest(meal, HANGING) is not None, suited)
            self.assertEqual(ring(meal, HANGING), None if suited else [("wish", 2)])

    def test_against_all_small_books(self):
        counts = [0, 0, 0]
        for meal, hanging, orders in cases(24, 130):
            found = [sums_of(rows) for rows in all_rows(hanging.rows(), 14) if suits(meal, rows, orders)]
            book = earliest(meal, hanging, orders)
            if book is None:
                counts[0] += 1
                self.assertEqual(found, [])
                self.assertIsNone(latest(meal, hanging, orders))
                self.check_ring(meal, hanging, orders, ring(meal, hanging, orders))
                continue
            self.assertIsNone(ring(meal, hanging, orders))
            self.assertEqual(book.hanging(), hanging)
            self.assertEqual({name: book.added(name) for name in meal},
                             {name: min(sums[name] for sums in found) for name in meal})
            greatest = latest(meal, hanging, orders)
            self.assertEqual(list(greatest), list(meal))
            counts[1 if None in greatest.values() else 2] += 1
            for name in meal:
                if greatest[name] is None:
                    self.check_far(meal, hanging, orders, name)
                elif None not in greatest.values():
                    self.assertEqual(greatest[name], max(sums[name] for sums in found))
                else:
                    self.assertGreaterEqual(greatest[name], max(sums[name] for sums in found))
        self.assertGreater(min(counts), 10, counts)

    def check_far(self, meal, hanging, orders, name):
        """Hold against all times that the dish may have a great sum in a book that suits."""
        book = earliest(meal.more([(("start", name), "clock", -99)]), hanging, orders)
        self.assertTrue(suits(meal, book.rows(), orders))
        self.assertGreater(book.added(name), 80)

    def test_the_lesser_and_the_greater_sums_of_two_that_suit(self):
        for meal, hanging, orders in cases(25, 30, most=9):
            books = [Book(rows) for rows in all_rows(hanging.rows(), 5) if suits(meal, rows, orders)]
            for one, other in itertools.combinations(books[::3], 2):
                self.assertTrue(suits(meal, (one & other).rows(), orders))
                self.assertTrue(suits(meal, (one | other).rows(), orders))

    def test_three_dishes_their_sums_are_least_and_greatest(self):
        counts = [0, 0, 0]
        for meal, hanging, orders in cases(26, 250, ("ham", "rice", "tea"), wishes=6):
            book = earliest(meal, hanging, orders)
            if book is None:
                counts[0] += 1
                self.check_ring(meal, hanging, orders, ring(meal, hanging, orders))
                continue
            self.assertTrue(suits(meal, book.rows(), orders))
            sums = {name: book.added(name) for name in meal}
            greatest = latest(meal, hanging, orders)
            counts[1 if None in greatest.values() else 2] += 1
            self.check_edge(meal, hanging, orders, sums, -1)
            if None not in greatest.values():
                self.check_edge(meal, hanging, orders, greatest, 1)
                self.assertTrue(suits(meal, Book.of(hanging, greatest).rows(), orders))
            for name in meal:
                if greatest[name] is None:
                    self.check_far(meal, hanging, orders, name)
        self.assertGreater(min(counts), 10, counts)

    def check_edge(self, meal, hanging, orders, sums, step):
        """Hold against all times that the sums suit, and that those of no dishes may be one step further."""
        # If any others suit, the lesser or greater ones of both do that are at most a step from these.
        self.assertTrue(self.suited(meal, hanging, orders, sums))
        for steps in itertools.product((0, step), repeat=len(sums)):
            if any(steps):
                moved = {name: sums[name] + more for name, more in zip(sums, steps)}
                self.assertFalse(self.suited(meal, hanging, orders, moved))

    def suited(self, meal, hanging, orders, sums):
        hooks = hanging.rows()
        waits = {name: sums[name] - (0 if hooks[name] == "clock" else sums[hooks[name]]) for name in hooks}
        return min(waits.values()) >= 0 and suits(meal, {name: (hooks[name], waits[name]) for name in hooks}, orders)

    def test_six_dishes_with_numbers_of_nine_digits(self):
        names = "abcdef"
        most = 999999999
        meal = Meal({name: (1, most) for name in names}, behind("f", "a", most) + behind("e", "b", most))
        chain = Hanging(dict(zip(names, ["clock", *names])))
        self.assertEqual(earliest(meal, chain).rows(),
                         {"a": ("clock", 0), "b": ("a", 0), "c": ("b", 0), "d": ("c", 0), "e": ("d", most - 2),
                          "f": ("e", 0)})
        flat = Hanging(dict.fromkeys(names, "clock"))
        self.assertEqual(earliest(meal, flat).added("f"), 2 * most)
        self.assertEqual(latest(meal.more(ready_by(names, most)), flat), None)
        self.check_ring(meal.more(ready_by(names, most)), flat, [], ring(meal.more(ready_by(names, most)), flat))
        self.assertEqual(latest(Meal(dict.fromkeys(names, (1, 1)), ready_by(names, most)), chain),
                         {name: most - 6 for name in names})

    def test_the_same_for_the_same_call_and_new_each_time(self):
        found = ring(QUARREL, HANGING)
        self.assertEqual(ring(QUARREL, HANGING, ()), found)
        self.assertEqual(ring(QUARREL, HANGING, orders=[]), found)
        found.append(0)
        self.assertEqual(ring(QUARREL, HANGING), found[:-1])
        latest(MEAL, HANGING)["rice"] = 3
        self.assertEqual(latest(MEAL, HANGING), {"fish": None, "rice": None, "tea": None})
        orders = [["fish", "tea"], ("rice", "tea")]
        for deed in DEEDS:
            deed(MEAL, HANGING, orders)
        self.assertEqual(orders, [["fish", "tea"], ("rice", "tea")])
        self.assertEqual(HANGING.rows(), HOOKS)


class Rings(Checks):
    def test_every_book_breaks_a_row_in_its_worst_times(self):
        rings = 0
        for meal, hanging, orders in cases(27, 80, ("ham", "rice", "tea"), wishes=8):
            found = ring(meal, hanging, orders)
            if found is None:
                continue
            rings += 1
            self.check_ring(meal, hanging, orders, found)
            for rows in all_rows(hanging.rows(), 3):
                broken = []
                for row in found:
                    if row[0] != "wait":
                        one, other, most = moments_of(meal, orders, row)
                        times = worst_times(meal, Book(rows), one, other)
                        broken.append(behind_by(rows, times, one, other) > most)
                self.assertIn(True, broken)
        self.assertGreater(rings, 30)

    def test_all_hangings_of_a_small_meal(self):
        meal = Meal({"ham": (1, 2), "rice": (2, 2), "tea": (1, 3)}, together(["ham", "rice", "tea"], 2))
        for hooks in all_hooks(list(meal), list(meal)):
            hanging = Hanging(hooks)
            found = [rows for rows in all_rows(hooks, 4) if suits(meal, rows)]
            self.assertEqual(earliest(meal, hanging) is not None, bool(found), hooks)
            self.assertEqual(ring(meal, hanging) is None, bool(found), hooks)


class IsRing(Checks):
    # Two wishes go round between rice and fish: 2 - 9 + 10 and 2 - 12 + 5.
    RIGHT = [("wish", 2), ("wish", 3)]

    def told(self, thing, meal=QUARREL, orders=()):
        found = is_ring(meal, HANGING, orders, thing)
        self.assertIsInstance(found, bool)
        return found

    def test_right_ones(self):
        for thing in (self.RIGHT, self.RIGHT[::-1], tuple(self.RIGHT), [list(row) for row in self.RIGHT],
                      tuple(list(row) for row in self.RIGHT)):
            self.assertTrue(self.told(thing))
        self.assertIs(is_ring(meal=QUARREL, hanging=HANGING, orders=[], thing=self.RIGHT), True)

    def test_one_that_comes_to_a_dish_twice(self):
        # The first and the third goes from rice to fish, with 5 and 3, back they go with -3 and -5.
        self.assertTrue(self.told([("wish", 0), ("wish", 3), ("wish", 2), ("wish", 3)]))
        self.assertTrue(self.told(self.RIGHT * 3))
        # 5 - 3 and 3 - 5 add up to 0.
        self.assertFalse(self.told([("wish", 0), ("wish", 1), ("wish", 2), ("wish", 3)]))

    def test_the_numbers_add_up_to_less_than_0(self):
        for most, found in ((2, True), (3, False), (1, True), (4, False)):
            meal = Meal(MEAL.dishes(), together(["rice", "fish"], most))
            self.assertIs(self.told([("wish", 0), ("wish", 1)], meal), found, most)

    def test_right_ones_with_one_part_changed(self):
        wrong = [[], (), self.RIGHT[:1], self.RIGHT[1:], self.RIGHT + self.RIGHT[:1], self.RIGHT + self.RIGHT[1:],
                 [("wish", 2), ("wait", "rice"), ("wish", 3)], [("wish", 2), ("wish", 3), ("wait", "tea")],
                 [("wish", 2), ("wish", 2)], [("wish", 3), ("wish", 3)], [("wish", 0), ("wish", 3), ("wish", 3)],
                 [("wish", 2), ("wish", 4)], [("wish", 2), ("wish", -1)], [("wish", 2), ("order", 3)],
                 [("wish", 2), ("wait", 3)], [("wish", 2), ["wish", [3]]], [("wish", 2), ("wish", 3, 0)],
                 [("wish", 2), ("wish",)], [("wish", 2), "wish"], [("wish", 2), {"wish": 3}], [self.RIGHT],
                 {0: ("wish", 2), 1: ("wish", 3)}, "wish", ("ring", self.RIGHT), [("wish", True), ("wish", 2)]]
        for thing in wrong:
            self.assertFalse(self.told(thing), thing)
        for thing in any_objects():
            self.assertFalse(self.told(thing))
            self.assertFalse(self.told([*self.RIGHT, thing]))
            self.assertFalse(self.told([thing, *self.RIGHT]))
            self.assertFalse(self.told([self.RIGHT[0], ("wish", thing)]))
            self.assertFalse(self.told([self.RIGHT[0], (thing, 3)]))

    def test_truths_are_no_indexes(self):
        meal = Meal(MEAL.dishes(), together(["rice", "fish"], 2))
        self.assertTrue(self.told([("wish", 0), ("wish", 1)], meal))
        for thing in ([("wish", False), ("wish", 1)], [("wish", 0), ("wish", True)]):
            self.assertFalse(self.told(thing, meal))

    def test_orders_and_waits(self):
        orders = [("fish", "tea"), ("tea", "rice")]
        # Tea hangs on rice, so tea ahead of rice goes round with the wait of tea.
        self.assertTrue(self.told([("order", 1), ("wait", "tea")], MEAL, orders))
        self.assertTrue(self.told([("wait", "tea"), ("order", 1)], MEAL, orders))
        for thing in ([("order", 0), ("wait", "tea")], [("order", 1), ("wait", "rice")], [("order", 1)],
                      [("order", 1), ("wait", "clock")], [("order", 2), ("wait", "tea")],
                      [("order", 1), ("wait", "tea"), ("wait", "rice")]):
            self.assertFalse(self.told(thing, MEAL, orders), thing)
        self.assertFalse(self.told([("order", 1), ("wait", "tea")], MEAL, orders[:1]))
        self.assertFalse(self.told([("order", 1), ("wait", "tea")], MEAL, orders[::-1]))

    def test_one_row_from_the_clock_to_itself(self):
        meal = MEAL.more([("clock", "clock", -1), ("clock", "clock", 0)])
        self.assertTrue(self.told([("wish", 2)], meal))
        self.assertTrue(self.told([("wish", 2), ("wish", 3)], meal))
        self.assertFalse(self.told([("wish", 3)], meal))

    def test_each_closed_walk_of_few_rows(self):
        counts = [0, 0]
        for meal, hanging, orders in cases(28, 25, wishes=4, most=4):
            names = [("wait", name) for name in meal] + [("wish", index) for index in range(len(meal.wishes()))]
            names += [("order", index) for index in range(len(orders))]
            for many in (1, 2, 3):
                for thing in itertools.product(names, repeat=many):
                    rows = [self.check_row(meal, hanging, orders, row) for row in thing]
                    joined = all(rows[at - 1][1] == rows[at][0] for at in range(many))
                    found = joined and sum(row[2] for row in rows) < 0
                    self.assertIs(is_ring(meal, hanging, orders, list(thing)), found)
                    counts[found] += 1
        self.assertGreater(min(counts), 50)


if __name__ == "__main__":
    unittest.main()
