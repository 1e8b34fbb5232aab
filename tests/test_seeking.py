"""Points 27 to 29: a right book for a meal, or a reason why there is none."""

import copy
import itertools
import random
import time
import unittest

from cookcalls.books import Book
from cookcalls.errors import NoDish
from cookcalls.hangings import Hanging
from cookcalls.judging import is_right, orders
from cookcalls.meals import Meal, behind, keeping, ready_by, together
from cookcalls.seeking import book_for, is_reason, reason
from cookcalls.waiting import ring
from tests.things import any_objects
from tests.trying import all_hooks, all_rows, at_once, all_times, holds, is_first, right, some_meal, some_rows

BOUNDS = {"fish": (2, 5), "rice": (3, 4), "tea": (1, 1)}
BY_STATION = Meal(BOUNDS, together(["fish", "rice", "tea"], 4), [["tea", "rice", "fish"]])
BY_WISHES = Meal(BOUNDS, together(["fish", "rice"], 1))
HARD = Meal({"fish": (1, 2), "tea": (1, 2)}, ready_by(["fish", "tea"], 3), [["fish", "tea"]])


def all_looks(names):
    """Yield all lists of looks, and None."""
    yield None
    for many in range(len(names) + 1):
        for looks in itertools.combinations(names, many):
            yield list(looks)


def parts_of(thing):
    """Yield the reason and all reasons in it."""
    yield thing
    if thing[0] == "hang":
        for part in thing[2].values():
            yield from parts_of(part)
    if thing[0] == "order":
        for part in thing[4:]:
            yield from parts_of(part)


def changed(thing, made):
    """Yield copies of a reason, in each of which one reason in it is replaced by what is made of it."""
    yield made(thing)
    if thing[0] == "hang":
        kind, name, parts = thing
        for hook in parts:
            for part in changed(parts[hook], made):
                yield (kind, name, {**parts, hook: part})
    if thing[0] == "order":
        for at in (4, 5):
            for part in changed(thing[at], made):
                yield (*thing[:at], part, *thing[at + 1:])


class Checks(unittest.TestCase):
    """Holds books and reasons against all times and books, gone through one by one."""

    def check_book(self, meal, looks, book):
        self.assertIsInstance(book, Book)
        self.assertEqual(list(book), list(meal))
        hooks = {"clock", *(meal if looks is None else looks)}
        self.assertLessEqual({hook for hook, wait in book.rows().values()}, hooks)
        self.assertTrue(right(meal, book.rows()))
        self.assertTrue(is_right(meal, book))

    def check_reason(self, meal, looks, thing, told=None, ordered=()):
        """Hold the form of a reason against the words of the document."""
        told = told or {}
        self.assertIsInstance(thing, tuple)
        if thing[0] == "hang":
            kind, name, parts = thing
            self.assertNotIn(name, told)
            wanted = {"clock"} | {look for look in (meal if looks is None else looks)
                                  if look != name and not self.hangs(look, name, told)}
            self.assertEqual(set(parts), wanted)
            for hook in parts:
                self.check_reason(meal, looks, parts[hook], {**told, name: hook}, ordered)
        elif thing[0] == "order":
            kind, index, first, later, one, other = thing
            self.assertNotEqual(first, later)
            self.assertLessEqual({first, later}, set(meal.stations()[index]))
            self.check_reason(meal, looks, one, told, [*ordered, (first, later)])
            self.check_reason(meal, looks, other, told, [*ordered, (later, first)])
        else:
            kind, rows = thing
            self.assertEqual(kind, "ring")
            self.assertIsInstance(rows, list)
            self.check_settled(meal, rows, told, ordered)

    def hangs(self, name, above, told):
        while name in told:
            name = told[name]
            if name == above:
                return True
        return False

    def check_settled(self, meal, rows, told, ordered):
        """Hold against small books that hang as is told that each breaks a row, of settled dishes alone."""
        settled = {}
        for name in told:
            if self.hangs(name, "clock", told):
                settled[name] = told[name]
        for waits in all_rows(settled, 2):
            self.assertTrue(any(self.breaks(meal, waits, row, ordered) for row in rows if row[0] != "wait"))
        for row in rows:
            if row[0] == "wait":
                self.assertIn(row[1], settled)

    def breaks(self, meal, rows, row, ordered):
        """Tell whether some times break a row; it raises KeyError if a dish of the row is not in the rows."""
        kind, index = row
        if kind == "order":
            first, later = ordered[index]
            wish = (("start", later), ("done", first), 0)
        else:
            wish = meal.wishes()[index]
        return not all(holds(rows, times, wish) for times in all_times(meal))


class BookFor(Checks):
    def test_a_right_book_with_the_looks_alone(self):
        meal = Meal(BOUNDS, together(["rice", "tea"], 2) + behind("fish", "tea", 0), [["fish", "rice"]])
        for looks in all_looks(list(meal)):
            book = book_for(meal, looks)
            self.assertEqual(book is None, reason(meal, looks) is not None)
            if book is not None:
                self.check_book(meal, looks, book)
        self.check_book(meal, None, book_for(meal=meal))
        self.check_book(meal, ["tea"], book_for(meal=meal, looks=["tea"]))

    def test_a_call_is_needed(self):
        # The rice starts right behind the fish, which takes from 2 to 5 minutes.
        meal = Meal(BOUNDS, [(("done", "fish"), ("start", "rice"), 0)] + behind("rice", "fish", 0))
        for looks in ([], ["rice"], ["tea"], ("rice", "tea")):
            self.assertIsNone(book_for(meal, looks))
            self.assertTrue(is_reason(meal, looks, reason(meal, looks)))
        for looks in (["fish"], ["fish", "rice", "tea"], ("rice", "fish"), None):
            self.check_book(meal, looks, book_for(meal, looks))
            self.assertEqual(book_for(meal, looks)["rice"], ("fish", 0))
            self.assertIsNone(reason(meal, looks))

    def test_a_look_that_stands_twice_counts_once(self):
        meal = Meal(BOUNDS, [(("done", "fish"), ("start", "rice"), 0)] + behind("rice", "fish", 0))
        self.assertEqual(book_for(meal, ["fish", "fish"]), book_for(meal, ["fish"]))
        found = reason(BY_WISHES, ["tea", "fish", "tea"])
        self.assertEqual(found, reason(BY_WISHES, ["fish", "tea"]))
        self.assertTrue(is_reason(BY_WISHES, ("tea", "tea", "fish"), found))

    def test_no_dishes(self):
        for looks in (None, [], ()):
            self.assertEqual(book_for(Meal({}), looks), Book({}))
            self.assertIsNone(reason(Meal({}), looks))
            meal = Meal({}, [("clock", "clock", 0), ("clock", "clock", -1)])
            self.assertIsNone(book_for(meal, looks))
            self.assertEqual(reason(meal, looks), ("ring", [("wish", 1)]))

    def test_meals_without_wishes_and_without_stations(self):
        names = list("abcde")
        self.check_book(Meal(dict.fromkeys(names, (1, 2))), None, book_for(Meal(dict.fromkeys(names, (1, 2)))))
        meal = Meal(dict.fromkeys(names, (1, 2)), (), [["a", "b"], ["c", "b"], ["a", "b", "c"]])
        for looks in (None, [], ["e"], ["b", "d"]):
            self.check_book(meal, looks, book_for(meal, looks))

    def test_stations_that_wishes_decide(self):
        for first, later in (("fish", "rice"), ("rice", "fish")):
            meal = Meal(BOUNDS, behind(later, first, 0), [["fish", "rice"]])
            book = book_for(meal)
            self.check_book(meal, None, book)
            self.assertEqual(orders(meal, book), [(0, first, later)])

    def test_numbers_of_nine_digits(self):
        most = 999999999
        meal = Meal({"a": (1, most), "b": (most, most)}, behind("a", "b", most) + keeping("b", ["a"], most * 2 - 1))
        self.assertIsNone(book_for(meal))
        self.assertTrue(is_reason(meal, None, reason(meal)))
        self.assertEqual(book_for(meal.less(1))["a"], ("clock", 2 * most))
        meal = Meal({"a": (1, most), "b": (most, most)}, behind("a", "b", most) + ready_by(["b"], most))
        self.assertIsNotNone(book_for(meal.more(keeping("a", ["b"], -most - 1))))

    def test_names_that_are_no_dish(self):
        wrong = any_objects() + ["pie", ("fish",), ["fish"], True]
        for function in (book_for, reason, lambda meal, looks: is_reason(meal, looks, ("ring", [("wish", 0)]))):
            for thing in wrong:
                for looks in ([thing], ["fish", thing, "pie"], ("tea", "rice", thing, None)):
                    with self.assertRaises(NoDish) as caught:
                        function(BY_WISHES, looks)
                    self.assertEqual(repr(caught.exception.name), repr(thing))
            self.assertRaises(NoDish, function, Meal({}), ["clock"])

    def test_what_is_passed_is_kept_and_what_is_returned_is_new(self):
        looks = ["tea", "fish", "tea"]
        found = reason(BY_STATION, looks)
        before = copy.deepcopy(found)
        self.assertTrue(is_reason(BY_STATION, looks, found))
        self.assertEqual(found, before)
        self.assertEqual(looks, ["tea", "fish", "tea"])
        for part in parts_of(found):
            if part[0] == "hang":
                part[2].clear()
            elif part[0] == "ring":
                part[1].clear()
        self.assertEqual(reason(BY_STATION, looks), before)
        self.assertEqual(book_for(HARD.less(0)), book_for(HARD.less(0)))


class AgainstAllBooks(Checks):
    def test_two_dishes(self):
        counts = [0, 0]
        rng = random.Random(27)
        for _ in range(50):
            meal = some_meal(rng, ["ham", "tea"], wishes=4, most=4)
            if rng.random() < 0.5:
                meal = meal.more(ready_by(list(meal), rng.randint(2, 9)))
            for looks in all_looks(list(meal)):
                found = any(right(meal, rows) for hooks in all_hooks(list(meal), meal if looks is None else looks)
                            for rows in all_rows(hooks, 13))
                book = book_for(meal, looks)
                counts[found] += 1
                self.assertEqual(book is not None, found)
                if book is None:
                    self.check_reason(meal, looks, reason(meal, looks))
                    self.assertIs(is_reason(meal, looks, reason(meal, looks)), True)
                else:
                    self.check_book(meal, looks, book)
                    self.assertIsNone(reason(meal, looks))
        self.assertGreater(min(counts), 60)

    def test_three_dishes_and_small_sums(self):
        counts = [0, 0]
        rng = random.Random(28)
        for _ in range(60):
            meal = some_meal(rng, ["ham", "rice", "tea"], wishes=5, most=7)
            for looks in (None, [], ["tea"], ["ham", "rice"]):
                book = book_for(meal, looks)
                counts[book is None] += 1
                if book is not None:
                    self.check_book(meal, looks, book)
                    continue
                found = reason(meal, looks)
                self.check_reason(meal, looks, found)
                self.assertIs(is_reason(meal, looks, found), True)
                for hooks in all_hooks(list(meal), meal if looks is None else looks):
                    for rows in all_rows(hooks, 1):
                        self.assertFalse(right(meal, rows))
        self.assertGreater(min(counts), 50)

    def test_every_book_goes_down_to_a_row_that_it_breaks(self):
        rng = random.Random(29)
        for _ in range(60):
            meal = some_meal(rng, ["ham", "rice", "soup", "tea"], wishes=6, most=7)
            found = reason(meal)
            if found is None:
                continue
            for _ in range(10):
                rows = some_rows(rng, list(meal), 6)
                self.assertTrue(self.refuted(meal, rows, found, []))

    def refuted(self, meal, rows, thing, ordered):
        """Go down a reason by a book; tell whether it ends at two dishes on at once or a row that is broken."""
        if thing[0] == "hang":
            return self.refuted(meal, rows, thing[2][rows[thing[1]][0]], ordered)
        if thing[0] == "ring":
            return any(self.breaks(meal, rows, row, ordered) for row in thing[1] if row[0] != "wait")
        kind, index, first, later, one, other = thing
        if is_first(meal, rows, first, later):
            return self.refuted(meal, rows, one, [*ordered, (first, later)])
        if is_first(meal, rows, later, first):
            return self.refuted(meal, rows, other, [*ordered, (later, first)])
        return any(at_once(rows, times, first, later) for times in all_times(meal))


class Reasons(Checks):
    def test_by_wishes_alone_by_a_station_alone_and_by_both(self):
        wishes = Meal(BOUNDS, together(["fish", "rice"], 1))
        # Both must start at 0, as the minute by which they are ready tells.
        station = Meal({"fish": (2, 2), "rice": (2, 2)}, ready_by(["fish", "rice"], 3), [["fish", "rice"]])
        both = Meal(BOUNDS, together(["fish", "rice", "tea"], 4), [["fish", "rice", "tea"]])
        for meal in (wishes, station, both):
            for looks in all_looks(list(meal)):
                found = reason(meal, looks)
                self.assertIsNone(book_for(meal, looks))
                self.check_reason(meal, looks, found)
                self.assertIs(is_reason(meal=meal, looks=looks, thing=found), True)
        self.assertNotIn("order", [part[0] for part in parts_of(reason(wishes))])
        self.assertIn("order", [part[0] for part in parts_of(reason(station))])
        self.assertIsNotNone(book_for(Meal(station.dishes(), station.wishes())))
        self.assertIsNotNone(book_for(Meal(both.dishes(), both.wishes())))

    def test_a_ring_that_needs_no_tree(self):
        for name in ("fish", "tea"):
            meal = Meal(BOUNDS, [("clock", "clock", 0), (("done", name), ("start", name), 5), ("clock", "clock", -3)])
            self.assertEqual(reason(meal), ("ring", [("wish", 2)]))
            self.assertTrue(is_reason(meal, [], ("ring", [["wish", 2]])))
            self.assertFalse(is_reason(meal, [], ("ring", [("wish", 0)])))

    def test_dishes_at_several_stations(self):
        names = list("abc")
        meal = Meal({name: (2, 2) for name in names}, ready_by(names, 5), [["a", "b"], ["c", "b"], ["a", "c"]])
        self.check_reason(meal, None, reason(meal))
        self.assertTrue(is_reason(meal, None, reason(meal)))
        self.check_book(Meal(meal.dishes(), ready_by(names, 6), meal.stations()), [],
                        book_for(Meal(meal.dishes(), ready_by(names, 6), meal.stations()), []))
        self.assertIsNone(reason(Meal(meal.dishes(), meal.wishes(), meal.stations()[:2])))

    def test_five_dishes_come_back_soon(self):
        rng = random.Random(30)
        names = ["apple", "bean", "cake", "dill", "egg"]
        started = time.process_time()
        none = 0
        for at in range(30):
            bounds = {name: (rng.randint(1, 6), rng.randint(6, 12)) for name in names}
            wished = together(names, rng.randint(9, 40)) + ready_by(rng.sample(names, 4), rng.randint(12, 60))
            meal = Meal(bounds, rng.sample(wished, 24), [names[2:], names[1:3], names[3:]][:at % 4])
            meal = Meal(bounds, meal.wishes(), [station for station in meal.stations() if "bean" not in station])
            book, found = book_for(meal), reason(meal)
            self.assertEqual(book is None, found is not None)
            if book is None:
                none += 1
                self.assertTrue(is_reason(meal, None, found))
            else:
                self.assertTrue(is_right(meal, book))
        self.assertLess(time.process_time() - started, 60)
        self.assertTrue(5 < none < 25, none)

    def test_reasons_of_the_rings_of_all_hangings(self):
        # Where no order is asked of, a reason may also be put together by hand, and in another way.
        meal = Meal({"fish": (2, 5), "tea": (1, 1)}, together(["fish", "tea"], 0))

        def by(*rows):
            return ("ring", ring(meal, Hanging(dict(rows))))

        first_fish = ("hang", "fish", {
            "clock": ("hang", "tea", {"clock": by(("fish", "clock"), ("tea", "clock")),
                                      "fish": by(("fish", "clock"), ("tea", "fish"))}),
            "tea": ("hang", "tea", {"clock": by(("fish", "tea"), ("tea", "clock"))})})
        first_tea = ("hang", "tea", {
            "clock": ("hang", "fish", {"clock": by(("fish", "clock"), ("tea", "clock")),
                                       "tea": by(("fish", "tea"), ("tea", "clock"))}),
            "fish": ("hang", "fish", {"clock": by(("fish", "clock"), ("tea", "fish"))})})
        # With the tea as a look alone, the fish has one thing less for the tea to hang on.
        for thing in (first_fish, first_tea):
            self.assertTrue(is_reason(meal, None, thing))
            self.assertTrue(is_reason(meal, ["tea", "fish"], thing))
            for looks in ([], ["tea"], ["fish"]):
                self.assertFalse(is_reason(meal, looks, thing))


class IsReason(Checks):
    MEALS = [(HARD, None), (HARD, []), (BY_WISHES, ["fish"]), (BY_STATION, ["tea", "rice"]),
             (HARD.more([("clock", "clock", -1)]), None)]

    def test_other_kinds_of_lists(self):
        def as_lists(thing):
            if thing[0] == "ring":
                return ["ring", tuple(list(row) for row in thing[1])]
            if thing[0] == "hang":
                return ["hang", thing[1], {hook: as_lists(thing[2][hook]) for hook in reversed(list(thing[2]))}]
            return [*thing[:4], *[as_lists(part) for part in thing[4:]]]

        for meal, looks in self.MEALS:
            self.assertIs(is_reason(meal, looks, as_lists(reason(meal, looks))), True)

    def test_any_objects(self):
        for meal, looks in self.MEALS:
            for thing in any_objects() + ["ring", ("ring",), ("ring", []), ("hang",), ("hang", "fish", {}), ("order",),
                                          ("hang", "fish", []), reason(meal, looks)[1:], [reason(meal, looks)], {}]:
                found = is_reason(meal, looks, thing)
                self.assertIs(found, False)

    def test_where_there_is_a_book_nothing_is_a_reason(self):
        found = reason(HARD)
        meal = Meal(HARD.dishes(), ready_by(["fish", "tea"], 4), HARD.stations())
        self.assertIsNotNone(book_for(meal))
        self.assertFalse(is_reason(meal, None, found))
        self.assertFalse(is_reason(meal, None, None))

    def test_a_reason_is_one_of_its_meal_and_looks(self):
        self.assertFalse(is_reason(BY_WISHES, ["fish"], reason(BY_WISHES, [])))
        self.assertFalse(is_reason(BY_WISHES, [], reason(BY_WISHES, ["fish"])))
        self.assertFalse(is_reason(HARD, None, reason(BY_WISHES)))
        self.assertFalse(is_reason(BY_WISHES, None, reason(HARD)))

    def test_right_ones_with_one_reason_in_them_replaced(self):
        for meal, looks in self.MEALS:
            found = reason(meal, looks)
            for thing in [None, True, 0, "ring", {}, [], (), ("ring", []), ("ring", None), ("ring", [("wish", 99)]),
                          ("hang", "fish", None)]:
                for wrong in changed(found, lambda part: thing):
                    self.assertFalse(is_reason(meal, looks, wrong))

    def test_right_ones_with_one_part_left_out_put_in_doubled_or_exchanged(self):
        deeds = [lambda part: part[:-1], lambda part: part[1:], lambda part: (*part, part[-1]), lambda part: part * 2,
                 lambda part: (part[0], *part), lambda part: (*part, None), lambda part: part[::-1],
                 lambda part: (part[0].upper(), *part[1:]), lambda part: ([part[0]], *part[1:]), lambda part: (part,),
                 lambda part: dict(enumerate(part)), lambda part: (part[0], part[2:], part[1]),
                 lambda part: ("hang" if part[0] == "ring" else "ring", *part[1:])]
        for meal, looks in self.MEALS:
            found = reason(meal, looks)
            for deed in deeds:
                for wrong in changed(found, deed):
                    self.assertIs(is_reason(meal, looks, wrong), False)

    def test_parts_of_hangs(self):
        counts = 0
        for meal, looks in self.MEALS:
            found = reason(meal, looks)
            for key in ("clock", *meal):
                for wrong in changed(found, lambda part: self.without(part, key)):
                    if wrong != found:
                        counts += 1
                        self.assertFalse(is_reason(meal, looks, wrong))
            for key in (None, True, 0, "pie", "Clock", ("clock",), "", *meal):
                for wrong in changed(found, lambda part: self.with_more(part, key)):
                    if wrong != found:
                        self.assertFalse(is_reason(meal, looks, wrong))
            for key, other in itertools.product(("clock", *meal), (None, True, 0, "pie", "Clock", ("clock",), *meal)):
                for wrong in changed(found, lambda part: self.exchanged(part, key, other)):
                    if wrong != found:
                        counts += 1
                        self.assertFalse(is_reason(meal, looks, wrong))
            for name in ("pie", "clock", None, 0, True, ["fish"], ("fish",), {}, *meal):
                for wrong in changed(found, lambda part: self.named(part, name)):
                    if wrong != found:
                        self.assertFalse(is_reason(meal, looks, wrong))
        self.assertGreater(counts, 50)

    def exchanged(self, part, key, other):
        if part[0] != "hang" or key not in part[2] or other in part[2]:
            return part
        return ("hang", part[1], {other if hook == key else hook: part[2][hook] for hook in part[2]})

    def without(self, part, key):
        if part[0] != "hang":
            return part
        return ("hang", part[1], {hook: part[2][hook] for hook in part[2] if hook != key})

    def with_more(self, part, key):
        if part[0] != "hang" or key in part[2]:
            return part
        return ("hang", part[1], {**part[2], key: part[2]["clock"]})

    def named(self, part, name):
        return ("hang", name, part[2]) if part[0] == "hang" else part

    def test_orders_of_stations(self):
        found = reason(HARD, [])
        found_order = [part for part in parts_of(found) if part[0] == "order"][0]
        kind, index, first, later, one, other = found_order
        self.assertEqual((index, {first, later}), (0, {"fish", "tea"}))
        wrong_ones = [(kind, wrong, first, later, one, other) for wrong in (1, -1, False, None, "0", [0], 99)]
        for wrong in ("pie", "clock", None, 0, True, [first], (first,), {}, later):
            wrong_ones.append((kind, index, wrong, later, one, other))
        for wrong in ("pie", "clock", None, 0, True, [later], (later,), {}, first):
            wrong_ones.append((kind, index, first, wrong, one, other))
        wrong_ones += [(kind, index, first, later, other, one), (kind, index, later, first, one, other),
                       (kind, index, first, later, one, one), (kind, index, first, later, other, other)]
        for thing in wrong_ones:
            for wrong in changed(found, lambda part: thing if part == found_order else part):
                if wrong != found:
                    self.assertIs(is_reason(HARD, [], wrong), False)
        swapped = (kind, index, later, first, other, one)
        self.assertIn(True, [is_reason(HARD, [], thing) for thing in
                             changed(found, lambda part: swapped if part == found_order else part) if thing != found])

    def test_the_dishes_of_an_order_stand_at_that_station(self):
        meal = Meal({name: (2, 2) for name in "abc"}, ready_by(list("abc"), 3), [["a", "b"], ["b", "c"]])
        found = reason(meal, [])
        for index in (0, 1):
            self.assertEqual([is_reason(meal, [], thing) for thing in changed(found, lambda part: (
                (part[0], 1 - part[1], *part[2:]) if part[0] == "order" and part[1] == index else part))
                if thing != found].count(True), 0)

    def test_orders_that_are_told_earlier_count_first(self):
        # Behind a further order of the same dishes, the orders that follow have another index.
        found = reason(HARD, [])
        doubled = ("order", 0, "fish", "tea", found, found)
        self.assertFalse(is_reason(HARD, [], doubled))

        def later(part):
            if part[0] == "ring":
                return ("ring", [(kind, at + 1) if kind == "order" else (kind, at) for kind, at in part[1]])
            if part[0] == "hang":
                return ("hang", part[1], {hook: later(part[2][hook]) for hook in part[2]})
            return (*part[:4], later(part[4]), later(part[5]))

        self.assertTrue(is_reason(HARD, [], ("order", 0, "fish", "tea", later(found), later(found))))

    def test_dishes_of_a_ring_must_be_settled(self):
        meal = Meal({"fish": (2, 5), "tea": (1, 1)}, [(("start", "fish"), ("done", "fish"), 4)])
        self.assertTrue(is_reason(meal, [], ("hang", "fish", {"clock": ("ring", [("wish", 0)])})))
        self.assertFalse(is_reason(meal, [], ("ring", [("wish", 0)])))
        self.assertFalse(is_reason(meal, [], ("hang", "tea", {"clock": ("ring", [("wish", 0)])})))
        ringed = ("ring", [("wish", 0)])
        settled = ("hang", "fish", {"clock": ringed, "tea": ("hang", "tea", {"clock": ringed})})
        self.assertTrue(is_reason(meal, ["tea"], settled))
        self.assertFalse(is_reason(meal, ["tea"], ("hang", "fish", {"clock": ringed, "tea": ringed})))
        # The tea may not hang on the fish, which hangs on it, and it may not be told twice.
        self.assertFalse(is_reason(meal, ["tea", "fish"], ("hang", "fish", {"clock": ringed, "tea": (
            "hang", "tea", {"clock": ringed, "fish": ringed})})))
        self.assertFalse(is_reason(meal, [], ("hang", "fish", {"clock": ("hang", "fish", {"clock": ringed})})))
        self.assertTrue(is_reason(meal, [], ("hang", "fish", {"clock": ("hang", "tea", {"clock": ringed})})))


if __name__ == "__main__":
    unittest.main()
