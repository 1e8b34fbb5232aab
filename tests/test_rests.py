"""Points 44 and 45: the rest of an evening, its verdicts, and a book that mends it."""

import itertools
import random
import time
import unittest

from cookcalls.books import Book
from cookcalls.errors import NoDish
from cookcalls.evenings import Evening
from cookcalls.judging import is_right, slacks
from cookcalls.meals import Meal, behind, keeping, ready_by, together
from tests.leading import Plain, Wrong, some_deed
from tests.things import any_objects
from tests.trees import all_looks, has_book, tight_meal
from tests.trying import all_hooks, all_rows, all_times, holds, minute, right, some_meal, some_rows

MEAL = Meal({"fish": (5, 9), "rice": (10, 12), "tea": (2, 2)}, together(["rice", "fish"], 4), [["fish", "tea"]])
BOOK = Book({"fish": ("clock", 3), "rice": ("clock", 0), "tea": ("fish", 1)})


def some_evening(rng, names, longest=4, many=8, **limits):
    """Return an evening by chance, some deeds on."""
    meal = some_meal(rng, names, longest=longest, **limits)
    rows = some_rows(rng, names, 3)
    return led(rng, meal, rows, rng.randint(0, many))


def led(rng, meal, rows, many):
    evening, plain = Evening(meal, Book(rows)), Plain(meal, rows)
    spare = [name for name in ("egg", "jam") if len(rows) < 3]
    for _ in range(many):
        word, *arguments = some_deed(rng, plain, spare or ["pie"])
        if word == "put" and not spare:
            continue
        try:
            plain.do(word, *arguments)
        except Wrong:
            continue
        getattr(evening, word)(*arguments)
    return evening


def to_come(evening, times):
    """Lead the evening on as long as anything happens, by these times; return all starts and dones, and go back."""
    deeds = 0
    while not all(evening.state(name)[0] == "done" for name in evening.meal()):
        calls = [name for name in evening.meal() if evening.state(name)[0] == "runs"
                 and evening.state(name)[1] + times[name] == evening.minute()]
        if calls:
            evening.call(calls[0])
        else:
            evening.go(1)
        deeds += 1
    moments = {name: evening.state(name)[1:] for name in evening.meal()}
    for _ in range(deeds):
        evening.undo()
    return moments


class Rest(unittest.TestCase):
    def test_bounds_and_hooks(self):
        evening = Evening(MEAL, BOOK)
        self.assertEqual(evening.rest(), (MEAL, BOOK))
        evening.go(9)
        self.assertEqual(evening.rest(), (MEAL.taking("fish", 6, 9), BOOK))
        evening.go(2)
        self.assertEqual(evening.rest(), (MEAL.taking("fish", 8, 9).taking("rice", 11, 12), BOOK))
        evening.call("fish")
        self.assertEqual(evening.rest(), (MEAL.taking("fish", 8, 8).taking("rice", 11, 12), BOOK))
        evening.go(1)
        evening.call("rice")
        meal = MEAL.taking("fish", 8, 8).taking("rice", 12, 12)
        self.assertEqual(evening.rest(), (meal, Book({**BOOK.rows(), "tea": ("clock", 12)})))
        evening.go(2)
        evening.call("tea")
        self.assertEqual(evening.rest(), (meal, Book({**BOOK.rows(), "tea": ("clock", 12)})))
        self.assertIsInstance(evening.rest(), tuple)

    def test_deeds_stand_in_it(self):
        evening = Evening(MEAL, BOOK)
        evening.go(4)
        evening.put("egg", 1, 3, "rice", 5)
        evening.wish(("clock", ("done", "egg"), 30))
        evening.change("tea", "egg", 0)
        meal = Meal({**MEAL.dishes(), "egg": (1, 3)}, MEAL.wishes() + [("clock", ("done", "egg"), 30)], MEAL.stations())
        self.assertEqual(evening.rest(), (meal, Book({**BOOK.rows(), "egg": ("rice", 5), "tea": ("egg", 0)})))
        self.assertEqual(evening.meal(), meal)

    def test_no_dishes_and_nothing_changed(self):
        evening = Evening(Meal({}), Book({}))
        self.assertEqual(evening.rest(), (Meal({}), Book({})))
        evening.go(7)
        self.assertEqual(evening.rest(), (Meal({}), Book({})))
        self.assertEqual(evening.verdicts(), [])
        self.assertEqual(evening.mended(), Book({}))
        evening.wish(("clock", "clock", -1))
        self.assertEqual(evening.verdicts(), ["broken"])
        self.assertIsNone(evening.mended())

    def test_what_is_to_come_are_the_times_of_the_rest(self):
        rng = random.Random(44)
        for _ in range(60):
            evening = some_evening(rng, ["ham", "soup", "tea"][:rng.randint(1, 3)], longest=3)
            before = [evening.minute(), [evening.state(name) for name in evening.meal()]]
            meal, book = evening.rest()
            for times in all_times(meal):
                self.assertEqual(to_come(evening, times), book(times))
            self.assertEqual(before, [evening.minute(), [evening.state(name) for name in evening.meal()]])
            self.assertEqual(evening.rest(), (meal, book))

    def test_other_times_are_not_to_come(self):
        rng = random.Random(441)
        for _ in range(60):
            evening = some_evening(rng, ["ham", "soup", "tea"], longest=4)
            fitting = list(all_times(evening.rest()[0]))
            for times in all_times(evening.meal()):
                # Times fit if the dishes that are done took them, and those that run may yet.
                may_come = all(self.fits(evening, name, times[name]) for name in times)
                self.assertEqual(may_come, times in fitting)

    def fits(self, evening, name, taken):
        state, *at = evening.state(name)
        if state == "done":
            return at[1] - at[0] == taken
        return state == "waits" or evening.minute() - at[0] <= taken


class Verdicts(unittest.TestCase):
    def test_kept_broken_and_open(self):
        evening = Evening(MEAL.more(ready_by(["tea"], 13) + behind("tea", "rice", 0) + [("clock", "clock", -1)]), BOOK)
        self.assertEqual(evening.verdicts(), ["kept", "kept", "open", "open", "broken"])
        evening.go(10)
        self.assertEqual(evening.verdicts(), ["kept", "kept", "open", "open", "broken"])
        evening.call("rice")
        self.assertEqual(evening.verdicts(), ["kept", "kept", "open", "kept", "broken"])
        evening.undo()
        evening.call("fish")
        self.assertEqual(evening.verdicts(), ["kept", "kept", "kept", "open", "broken"])
        evening.undo()
        evening.go(1)
        self.assertEqual(evening.verdicts(), ["kept", "kept", "broken", "kept", "broken"])

    def test_kept_or_broken_by_a_minute(self):
        evening = Evening(Meal({"tea": (2, 4)}), Book({"tea": ("clock", 1)}))
        for at, verdict in ((2, "broken"), (3, "open"), (4, "open"), (5, "kept")):
            evening.wish(("clock", ("done", "tea"), at))
            self.assertEqual(evening.verdicts()[-1], verdict)
        for most, verdict in ((-6, "broken"), (-5, "open"), (-4, "open"), (-3, "kept")):
            evening.wish((("done", "tea"), "clock", most))
            self.assertEqual(evening.verdicts()[-1], verdict)

    def test_against_all_times_of_the_rest(self):
        rng = random.Random(442)
        counts = {"kept": 0, "broken": 0, "open": 0}
        for _ in range(150):
            evening = some_evening(rng, ["ham", "soup", "tea"], wishes=8, most=9)
            meal, book = evening.rest()
            wanted = []
            for wish in meal.wishes():
                found = {holds(book.rows(), times, wish) for times in all_times(meal)}
                wanted.append("open" if len(found) == 2 else "kept" if found == {True} else "broken")
            self.assertEqual(evening.verdicts(), wanted)
            for verdict in wanted:
                counts[verdict] += 1
        self.assertGreater(min(counts.values()), 10)

    def test_all_are_kept_just_if_the_rest_keeps_all(self):
        rng = random.Random(443)
        for _ in range(50):
            evening = some_evening(rng, ["ham", "soup", "tea"], wishes=2, most=9)
            self.assertEqual(set(evening.verdicts()) <= {"kept"}, min([0, *slacks(*evening.rest())]) >= 0)

    def test_returned_lists_are_new(self):
        evening = Evening(MEAL, BOOK)
        evening.verdicts().clear()
        self.assertEqual(evening.verdicts(), ["kept", "kept"])


class Mended(unittest.TestCase):
    def check(self, evening, looks):
        """Hold what mends the evening against the words of the document, and None against all trees and orders."""
        meal, rest = evening.rest()
        book = evening.mended(looks)
        if book is None:
            self.assertFalse(has_book(meal.more(self.pins(evening)), looks))
            return None
        self.assertEqual(list(book), list(meal))
        self.assertTrue(is_right(meal, book))
        hooks = {"clock", *(meal if looks is None else looks)}
        self.assertLessEqual({hook for hook, wait in book.rows().values()}, hooks)
        for times in all_times(meal):
            self.assertTrue(self.goes_on(evening, book(times)))
        self.assertTrue(right(meal, book.rows()))
        return book

    def goes_on(self, evening, moments):
        for name, (start, done) in moments.items():
            state = evening.state(name)
            if start < evening.minute() if state == ("waits",) else start != state[1]:
                return False
        return True

    def pins(self, evening):
        wishes = []
        for name in evening.meal():
            state, *at = evening.state(name)
            wishes.append((("start", name), "clock", -(at[0] if at else evening.minute())))
            wishes += [("clock", ("start", name), at[0])] if at else []
        return wishes

    def test_a_dish_that_came_late(self):
        # The fish took so long that the rice, which runs, might be done too soon for it.
        meal = Meal({"fish": (5, 9), "rice": (3, 4), "tea": (2, 2)},
                    together(["fish", "rice"], 4) + ready_by(["rice"], 15))
        evening = Evening(meal, Book({"fish": ("clock", 0), "rice": ("clock", 5), "tea": ("clock", 30)}))
        evening.go(4)
        self.assertIsNotNone(self.check(evening, None))
        evening.go(4)
        book = self.check(evening, [])
        self.assertEqual(book["rice"], ("clock", 5))
        self.assertEqual(book["fish"], ("clock", 0))
        self.assertGreaterEqual(book.wait("tea"), 8)

    def test_what_has_started_can_be_mended_no_more(self):
        meal = Meal({"fish": (5, 9), "rice": (3, 4)}, together(["fish", "rice"], 4))
        evening = Evening(meal, Book({"fish": ("clock", 0), "rice": ("clock", 0)}))
        self.assertIsNone(self.check(evening, None))
        evening = Evening(meal, Book({"fish": ("clock", 0), "rice": ("clock", 9)}))
        self.assertIsNotNone(self.check(evening, None))
        evening.go(6)
        self.assertIsNotNone(self.check(evening, ["fish"]))
        evening.go(1)
        evening.call("fish")
        self.assertIsNotNone(self.check(evening, []))
        evening.go(2)
        self.assertIsNone(self.check(evening, None))
        evening.undo()
        self.assertIsNotNone(self.check(evening, None))

    def test_a_call_is_needed(self):
        meal = Meal({"fish": (5, 9), "rice": (3, 4)},
                    behind("rice", "fish", 0) + [(("done", "fish"), ("start", "rice"), 1)])
        evening = Evening(meal, Book({"fish": ("clock", 2), "rice": ("clock", 20)}))
        evening.go(4)
        for looks, some in ((None, True), (["fish"], True), ([], False), (["rice"], False), (("rice", "fish"), True)):
            self.assertEqual(self.check(evening, looks) is not None, some)
        evening.go(3)
        evening.call("fish")
        self.assertIsNotNone(self.check(evening, []))
        evening.go(1)
        self.assertEqual(self.check(evening, [])["rice"], ("clock", 8))
        evening.go(1)
        self.assertIsNone(self.check(evening, None))

    def test_at_this_minute_and_a_minute_ahead_of_it(self):
        meal = Meal({"fish": (5, 5), "rice": (3, 3)}, ready_by(["fish"], 9))
        evening = Evening(meal, Book({"fish": ("clock", 9), "rice": ("clock", 9)}))
        for at in range(4):
            self.assertIsNotNone(self.check(evening, None))
            evening.go(1)
        self.assertEqual(self.check(evening, None).added("fish"), 4)
        evening.go(1)
        self.assertIsNone(self.check(evening, None))

    def test_stations_of_what_runs(self):
        meal = Meal({"fish": (2, 4), "rice": (3, 3)}, ready_by(["rice"], 8), [["fish", "rice"]])
        evening = Evening(meal, Book({"fish": ("clock", 1), "rice": ("clock", 2)}))
        evening.go(1)
        self.assertEqual(self.check(evening, []).added("rice"), 5)
        evening.go(1)
        # Both are on now.
        self.assertIsNone(self.check(evening, None))

    def test_against_all_trees_and_orders(self):
        rng = random.Random(45)
        counts = [0, 0]
        for at in range(150):
            names = ["ham", "soup", "tea"]
            meal = tight_meal(rng, names, 4) if at % 2 else some_meal(rng, names, longest=4, wishes=3, most=9)
            evening = led(rng, meal, some_rows(rng, names, 4), rng.randint(0, 7))
            looks = rng.choice([None, None, [], ["ham"], ["soup", "tea"]])
            counts[self.check(evening, looks) is None] += 1
        self.assertGreater(min(counts), 30)

    def test_against_all_books_and_all_times(self):
        rng = random.Random(451)
        counts = [0, 0]
        for at in range(80):
            names = ["ham", "tea"]
            meal = tight_meal(rng, names, 3) if at % 2 else some_meal(rng, names, longest=3, wishes=3, most=5)
            evening = led(rng, meal, some_rows(rng, names, 2), rng.randint(0, 4))
            if len(evening.meal()) > 2:
                continue
            meal = evening.rest()[0]
            for looks in all_looks(meal):
                some = any(right(meal, rows) and all(self.goes_on(evening, self.moments(rows, times))
                                                     for times in all_times(meal))
                           for hooks in all_hooks(list(meal), looks) for rows in all_rows(hooks, 9))
                self.assertEqual(self.check(evening, looks) is not None, some)
                counts[some] += 1
        self.assertGreater(min(counts), 30)

    def moments(self, rows, times):
        return {name: (minute(rows, times, ("start", name)), minute(rows, times, ("done", name))) for name in rows}

    def test_four_dishes_and_deeds_that_put_more_in(self):
        rng = random.Random(452)
        counts = [0, 0]
        for _ in range(30):
            evening = some_evening(rng, ["ham", "tea"], longest=3, wishes=4, most=12, many=14)
            counts[self.check(evening, rng.choice([None, ["ham"], []])) is None] += 1
        self.assertGreater(min(counts), 3)

    def test_looks_that_are_no_dish(self):
        evening = Evening(MEAL, BOOK)
        evening.go(12)
        for thing in any_objects() + ["pie", ["fish"], ("fish",), True]:
            for looks in ([thing], ["fish", thing, "pie"], ("rice", thing, None)):
                with self.assertRaises(NoDish) as caught:
                    evening.mended(looks)
                self.assertEqual(repr(caught.exception.name), repr(thing))
        self.assertRaises(NoDish, Evening(Meal({}), Book({})).mended, ["egg"])
        evening.call("rice")
        evening.put("egg", 1, 2, "rice", 0)
        self.assertEqual(evening.mended(looks=["egg"]), evening.mended(("egg", "egg")))

    def test_nothing_changes_the_evening(self):
        evening = Evening(MEAL, BOOK)
        evening.go(5)
        looks = ["fish", "fish"]
        before = (evening.rest(), evening.verdicts(), evening.mended(looks))
        self.assertEqual((evening.rest(), evening.verdicts(), evening.mended(looks)), before)
        self.assertEqual((evening.meal(), evening.book(), evening.minute(), looks), (MEAL, BOOK, 5, ["fish", "fish"]))

    def test_five_dishes_come_back_soon(self):
        rng = random.Random(453)
        names = ["apple", "bean", "cake", "dill", "egg"]
        started = time.process_time()
        some = 0
        for at in range(40):
            scale = 1 if at % 2 else 10 ** 8
            bounds = {name: (scale * rng.randint(1, 5), scale * rng.randint(5, 9)) for name in names}
            wished = together(names, scale * rng.randint(6, 20)) + keeping("egg", names[:4], scale * rng.randint(2, 9))
            meal = Meal(bounds, rng.sample(wished, rng.randint(12, 24)), [names[:3], names[:2]][:at % 3])
            evening = Evening(meal, Book({name: ("clock", scale * rng.randint(0, 12)) for name in names}))
            evening.go(scale * rng.randint(1, 5))
            book = evening.mended()
            if book is not None:
                some += 1
                self.assertTrue(is_right(evening.rest()[0], book))
        self.assertLess(time.process_time() - started, 60)
        self.assertTrue(2 < some < 38, some)


if __name__ == "__main__":
    unittest.main()
