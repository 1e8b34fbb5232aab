"""Points 40 to 43: an evening led by a book, deed by deed, and deeds taken back."""

import copy
import random
import unittest

from cookcalls.books import Book
from cookcalls.errors import (BadDish, BadMinutes, BadRow, BadWish, NoDish, NothingBack, NotRunning, Overdue, Refused,
                              Round, Started, TooEarly, TooSoon, Unlike)
from cookcalls import errors
from cookcalls.evenings import Evening
from cookcalls.meals import Meal, behind, ready_by, together
from tests.leading import Plain, Wrong, some_deed
from tests.things import any_keys, any_objects
from tests.trying import some_meal, some_rows

MEAL = Meal({"fish": (5, 9), "rice": (10, 12), "tea": (2, 2)}, together(["rice", "fish"], 4), [["fish", "tea"]])
BOOK = Book({"fish": ("clock", 3), "rice": ("clock", 0), "tea": ("fish", 1)})


def shown(evening):
    """Return all that an evening tells of how it stands."""
    return (evening.minute(), {name: evening.state(name) for name in evening.meal()}, evening.book().rows(),
            evening.meal().dishes(), evening.meal().wishes(), evening.meal().stations())


class Led(unittest.TestCase):
    def refused(self, evening, error, attributes, deed, *arguments):
        """Hold that a deed raises an error with these attributes and changes nothing."""
        before = shown(evening)
        with self.assertRaises(error) as caught:
            getattr(evening, deed)(*arguments)
        self.assertEqual(repr(vars(caught.exception)), repr(attributes))
        self.assertEqual(shown(evening), before)


class Starts(Led):
    def test_at_first_it_is_minute_0(self):
        evening = Evening(MEAL, BOOK)
        self.assertEqual(evening.minute(), 0)
        self.assertEqual([evening.state(name) for name in MEAL], [("waits",), ("runs", 0), ("waits",)])
        self.assertEqual(evening.book(), BOOK)
        self.assertEqual(evening.meal(), MEAL)

    def test_one_evening_right_through(self):
        evening = Evening(meal=MEAL, book=BOOK)
        self.assertEqual(evening.go(2), [])
        self.assertEqual(evening.go(1), [(3, "fish")])
        self.assertEqual(evening.go(minutes=7), [])
        self.assertEqual(evening.call("rice"), [])
        self.assertEqual(evening.state("rice"), ("done", 0, 10))
        self.assertEqual(evening.go(1), [])
        self.assertEqual(evening.call(name="fish"), [])
        self.assertEqual(evening.state(name="tea"), ("waits",))
        self.assertEqual(evening.go(2), [(12, "tea")])
        self.assertEqual(evening.state("tea"), ("runs", 12))
        self.assertEqual(evening.go(1), [])
        self.assertEqual(evening.call("tea"), [])
        self.assertEqual([evening.state(name) for name in MEAL], [("done", 3, 11), ("done", 0, 10), ("done", 12, 14)])
        self.assertEqual(evening.go(1000), [])
        self.assertEqual(evening.minute(), 1014)

    def test_starts_are_ascending_by_minute_and_by_name(self):
        meal = Meal({name: (30, 40) for name in "abcdef"})
        book = Book({"f": ("clock", 2), "e": ("clock", 5), "d": ("clock", 2), "c": ("clock", 9), "b": ("clock", 5),
                     "a": ("clock", 10)})
        evening = Evening(meal, book)
        self.assertEqual(evening.go(9), [(2, "d"), (2, "f"), (5, "b"), (5, "e"), (9, "c")])
        self.assertEqual(evening.go(1), [(10, "a")])

    def test_what_starts_at_a_call(self):
        meal = Meal({name: (1, 9) for name in "abcdef"})
        book = Book({"a": ("clock", 0), "e": ("a", 0), "c": ("a", 0), "b": ("e", 0), "d": ("a", 1), "f": ("clock", 2)})
        evening = Evening(meal, book)
        self.assertEqual(evening.go(1), [])
        found = evening.call("a")
        self.assertEqual(found, ["c", "e"])
        self.assertEqual(evening.state("c"), ("runs", 1))
        self.assertEqual(evening.state("b"), ("waits",))
        self.assertEqual(evening.go(1), [(2, "d"), (2, "f")])
        self.assertEqual(evening.call("e"), ["b"])

    def test_no_dishes_and_six(self):
        evening = Evening(Meal({}), Book({}))
        self.assertEqual(evening.go(5), [])
        self.assertEqual(evening.minute(), 5)
        self.refused(evening, NoDish, {"name": "fish"}, "call", "fish")
        most = 999999999
        meal = Meal({name: (1, most) for name in "abcdef"})
        evening = Evening(meal, Book({name: ("clock", most) for name in "abcdef"}))
        self.assertEqual(evening.go(most), [(most, name) for name in "abcdef"])
        self.assertEqual(evening.go(most), [])
        self.refused(evening, Overdue, {"name": "a"}, "go", 1)

    def test_a_book_that_is_not_right(self):
        book = Book({"tea": ("rice", 0), "fish": ("tea", 0), "rice": ("clock", 0)})
        evening = Evening(MEAL.more(ready_by(["tea"], 0)), book)
        self.assertEqual(evening.go(11), [])
        self.assertEqual(evening.call("rice"), ["tea"])

    def test_unlike(self):
        for rows in ({}, {"fish": ("clock", 0)}, {**BOOK.rows(), "pie": ("clock", 0)},
                     {"fish": ("clock", 0), "rice": ("clock", 0), "pie": ("clock", 0)}):
            self.assertRaises(Unlike, Evening, MEAL, Book(rows))
        self.assertRaises(Unlike, Evening, Meal({}), BOOK)

    def test_two_evenings_of_one_book(self):
        one, other = Evening(MEAL, BOOK), Evening(MEAL, BOOK)
        one.go(4)
        one.wish(("clock", "clock", 0))
        self.assertEqual(shown(other), shown(Evening(MEAL, BOOK)))

    def test_returned_lists_are_new(self):
        evening = Evening(MEAL, BOOK)
        evening.book().rows().clear()
        evening.meal().wishes().clear()
        found = evening.go(3)
        found.clear()
        self.assertEqual(evening.state("fish"), ("runs", 3))
        self.assertEqual(evening.meal().wishes(), MEAL.wishes())


class Go(Led):
    def test_minutes_that_cannot_pass(self):
        evening = Evening(MEAL, BOOK)
        for thing in any_objects() + [-999999999, 0, True, "1", [1], (1,)]:
            if isinstance(thing, int) and not isinstance(thing, bool) and thing >= 1:
                continue
            self.refused(evening, BadMinutes, {"minutes": thing}, "go", thing)

    def test_overdue_by_a_minute(self):
        evening = Evening(MEAL, BOOK)
        # The rice as well as the fish would be overdue, the fish after it has started at 3.
        self.refused(evening, Overdue, {"name": "fish"}, "go", 13)
        self.assertEqual(evening.go(12), [(3, "fish")])
        self.refused(evening, Overdue, {"name": "fish"}, "go", 1)
        evening.call("fish")
        self.refused(evening, Overdue, {"name": "rice"}, "go", 1)
        evening.call("rice")
        self.assertEqual(evening.go(3), [(13, "tea")])
        self.refused(evening, Overdue, {"name": "tea"}, "go", 1)

    def test_a_dish_that_would_start_and_be_overdue(self):
        evening = Evening(Meal({"a": (1, 9), "b": (1, 2)}), Book({"a": ("clock", 0), "b": ("clock", 3)}))
        self.refused(evening, Overdue, {"name": "b"}, "go", 6)
        self.refused(evening, Overdue, {"name": "a"}, "go", 10)
        self.assertEqual(evening.go(5), [(3, "b")])

    def test_what_waits_for_a_call_is_not_overdue(self):
        evening = Evening(Meal({"a": (1, 90), "b": (1, 2)}), Book({"a": ("clock", 0), "b": ("a", 3)}))
        self.assertEqual(evening.go(90), [])
        self.assertEqual(evening.state("b"), ("waits",))


class Call(Led):
    def test_at_the_least_and_at_the_most_minute(self):
        evening = Evening(MEAL, BOOK)
        self.refused(evening, TooSoon, {"name": "rice"}, "call", "rice")
        evening.go(9)
        self.refused(evening, TooSoon, {"name": "rice"}, "call", "rice")
        evening.go(1)
        self.assertEqual(evening.call("rice"), [])
        evening.undo()
        evening.go(2)
        self.assertEqual(evening.call("rice"), [])
        self.assertEqual(evening.state("rice"), ("done", 0, 12))
        self.assertEqual(evening.call("fish"), [])

    def test_who_does_not_run(self):
        evening = Evening(MEAL, BOOK)
        self.refused(evening, NotRunning, {"name": "fish"}, "call", "fish")
        self.refused(evening, NotRunning, {"name": "tea"}, "call", "tea")
        evening.go(10)
        evening.call("rice")
        self.refused(evening, NotRunning, {"name": "rice"}, "call", "rice")

    def test_any_objects(self):
        evening = Evening(MEAL, BOOK)
        for thing in any_objects() + ["pie", ["fish"], ("fish",), True]:
            for deed in ("call", "state"):
                self.refused(evening, NoDish, {"name": thing}, deed, thing)
            self.refused(evening, NoDish, {"name": thing}, "change", thing, None, -1)


class Put(Led):
    def test_a_further_dish(self):
        evening = Evening(MEAL, BOOK)
        evening.go(4)
        self.assertIs(evening.put("egg", 3, 4, "clock", 6), False)
        self.assertEqual(evening.state("egg"), ("waits",))
        self.assertEqual(evening.meal(), Meal({**MEAL.dishes(), "egg": (3, 4)}, MEAL.wishes(), MEAL.stations()))
        self.assertEqual(evening.book(), Book({**BOOK.rows(), "egg": ("clock", 6)}))
        self.assertIs(evening.put(name="ale", least=1, most=1, other="egg", wait=0), False)
        self.assertEqual(evening.go(2), [(6, "egg")])
        evening.go(3)
        self.assertEqual(evening.call("egg"), ["ale"])

    def test_at_this_minute_and_a_minute_ahead_of_it(self):
        evening = Evening(MEAL, BOOK)
        self.assertIs(evening.put("ale", 1, 1, "clock", 0), True)
        self.assertEqual(evening.state("ale"), ("runs", 0))
        evening.go(1)
        evening.call("ale")
        evening.go(4)
        self.refused(evening, TooEarly, {"name": "egg"}, "put", "egg", 1, 2, "clock", 4)
        self.refused(evening, TooEarly, {"name": "egg"}, "put", "egg", 1, 2, "ale", 3)
        self.assertIs(evening.put("egg", 1, 2, "ale", 4), True)
        self.assertEqual(evening.state("egg"), ("runs", 5))
        self.assertIs(evening.put("ham", 1, 2, "clock", 5), True)
        self.assertIs(evening.put("jam", 1, 2, "ale", 5), False)
        self.assertEqual(evening.go(1), [(6, "jam")])

    def test_wrong_names_and_bounds(self):
        evening = Evening(MEAL, BOOK)
        for thing in any_objects() + ["fish", "tea", ["egg"], ("egg",), "egg2", "clock", "abcdefghi"]:
            self.refused(evening, BadDish, {"name": thing}, "put", thing, 1, 2, "clock", 5)
            self.refused(evening, BadDish, {"name": thing}, "put", thing, 2, 1, "pie", -5)
        for least, most in ((0, 1), (2, 1), (-1, 5), (True, 2), (1, True), ("1", 2), (1, None), ([1], 2), (1, (2,))):
            self.refused(evening, BadDish, {"name": "egg"}, "put", "egg", least, most, "clock", 5)
            self.refused(evening, BadDish, {"name": "egg"}, "put", "egg", least, most, None, None)
        for thing in any_objects():
            if not isinstance(thing, int) or isinstance(thing, bool):
                self.refused(evening, BadDish, {"name": "egg"}, "put", "egg", thing, 9, "clock", 5)
                self.refused(evening, BadDish, {"name": "egg"}, "put", "egg", 1, thing, "clock", 5)

    def test_wrong_rows(self):
        evening = Evening(MEAL, BOOK)
        for thing in any_objects() + ["egg", "pie", ["clock"], ("clock", 5), True]:
            if thing != "clock":
                self.refused(evening, BadRow, {"name": "egg"}, "put", "egg", 1, 2, thing, 5)
                self.refused(evening, BadRow, {"name": "tea"}, "change", "tea", thing, 5)
            if not isinstance(thing, int) or isinstance(thing, bool) or thing < 0:
                self.refused(evening, BadRow, {"name": "egg"}, "put", "egg", 1, 2, "clock", thing)
                self.refused(evening, BadRow, {"name": "tea"}, "change", "tea", "fish", thing)
        evening.go(3)
        self.refused(evening, BadRow, {"name": "egg"}, "put", "egg", 1, 2, "clock", -1)


class Change(Led):
    def test_elsewhere_and_otherwise(self):
        evening = Evening(MEAL, BOOK)
        self.assertIs(evening.change("tea", "rice", 0), False)
        self.assertEqual(evening.book()["tea"], ("rice", 0))
        self.assertIs(evening.change(name="fish", other="clock", wait=4), False)
        self.assertEqual(evening.go(4), [(4, "fish")])
        self.assertIs(evening.change("tea", "clock", 4), True)
        self.assertEqual(evening.state("tea"), ("runs", 4))
        self.assertEqual(evening.meal(), MEAL)

    def test_at_this_minute_and_a_minute_ahead_of_it(self):
        evening = Evening(MEAL, BOOK)
        evening.go(8)
        evening.call("fish")
        self.refused(evening, TooEarly, {"name": "tea"}, "change", "tea", "clock", 7)
        self.assertIs(evening.change("tea", "fish", 0), True)
        evening.undo()
        evening.change("tea", "fish", 9)
        evening.go(2)
        self.refused(evening, TooEarly, {"name": "tea"}, "change", "tea", "fish", 1)
        self.assertIs(evening.change("tea", "fish", 2), True)
        evening.undo()
        self.assertIs(evening.change("tea", "fish", 3), False)
        self.assertEqual(evening.go(1), [(11, "tea")])

    def test_who_does_not_wait(self):
        evening = Evening(MEAL, BOOK)
        self.refused(evening, Started, {"name": "rice"}, "change", "rice", "pie", -1)
        self.refused(evening, Started, {"name": "rice"}, "change", "rice", "rice", 0)
        evening.go(10)
        evening.call("rice")
        self.refused(evening, Started, {"name": "rice"}, "change", "rice", "clock", 99)

    def test_rounds(self):
        names = list("abcd")
        meal = Meal({name: (1, 2) for name in names})
        evening = Evening(meal, Book({"d": ("clock", 9), "b": ("d", 0), "c": ("b", 0), "a": ("c", 0)}))
        self.refused(evening, Round, {"names": ["d"]}, "change", "d", "d", 0)
        self.refused(evening, Round, {"names": ["b", "d"]}, "change", "d", "b", 0)
        self.refused(evening, Round, {"names": ["a", "c", "b", "d"]}, "change", "d", "a", 5)
        self.refused(evening, Round, {"names": ["b", "c"]}, "change", "b", "c", 0)
        self.refused(evening, BadRow, {"name": "d"}, "change", "d", "d", -1)
        self.assertIs(evening.change("d", "clock", 0), True)
        evening = Evening(meal, Book({"d": ("clock", 0), "b": ("d", 0), "c": ("b", 0), "a": ("c", 0)}))
        evening.go(1)
        # The round comes ahead of the minute, at which nothing would start.
        self.refused(evening, Round, {"names": ["b"]}, "change", "b", "b", 0)
        self.refused(evening, TooEarly, {"name": "b"}, "change", "b", "clock", 0)


class Wish(Led):
    def test_a_further_wish(self):
        evening = Evening(MEAL, BOOK)
        wish = [["done", "fish"], "clock", -5]
        self.assertIsNone(evening.wish(wish))
        self.assertIsNone(evening.wish(wish=("clock", "clock", -1)))
        wish[0][1] = "tea"
        self.assertEqual(evening.meal().wishes(),
                         MEAL.wishes() + [(("done", "fish"), "clock", -5), ("clock", "clock", -1)])
        self.assertEqual(evening.minute(), 0)

    def test_any_objects(self):
        evening = Evening(MEAL, BOOK)
        wrong = [("clock", "clock"), ("clock", "clock", True), ("clock", ("start", "egg"), 5), "clock"]
        for thing in any_objects() + wrong:
            if thing != (("start", "rice"), "clock", 5):
                self.refused(evening, BadWish, {"index": 2}, "wish", thing)
        evening.wish(("clock", "clock", 0))
        self.refused(evening, BadWish, {"index": 3}, "wish", ("clock", ("start", "egg"), 5))
        evening.put("egg", 1, 2, "clock", 9)
        evening.wish(("clock", ("start", "egg"), 5))


class Back(Led):
    def test_undo_behind_each_deed(self):
        evening = Evening(MEAL, BOOK)
        rows = [("go", 10), ("call", "rice"), ("put", "egg", 1, 2, "clock", 10), ("change", "tea", "rice", 0),
                ("wish", ("clock", "clock", 0)), ("go", 1)]
        before = [shown(evening)]
        for word, *arguments in rows:
            getattr(evening, word)(*arguments)
            before.append(shown(evening))
            self.assertIsNone(evening.undo())
            self.assertEqual(shown(evening), before[-2])
            getattr(evening, word)(*arguments)
            self.assertEqual(shown(evening), before[-1])
        self.assertEqual(len({repr(one) for one in before}), len(before))
        for one in before[-2::-1]:
            evening.undo()
            self.assertEqual(shown(evening), one)
        self.refused(evening, NothingBack, {}, "undo")
        evening.go(2)
        evening.undo()
        self.assertEqual(shown(evening), before[0])
        self.refused(evening, NothingBack, {}, "undo")

    def test_a_refused_deed_is_not_taken_back(self):
        evening = Evening(MEAL, BOOK)
        evening.go(4)
        for word, arguments in (("go", [0]), ("go", [99]), ("call", ["rice"]), ("call", ["pie"]), ("wish", [1]),
                                ("put", ["fish", 1, 2, "clock", 9]), ("change", ["tea", "tea", 0])):
            self.assertRaises(errors.KitchenError, getattr(evening, word), *arguments)
        evening.undo()
        self.assertEqual(evening.minute(), 0)
        self.refused(evening, NothingBack, {}, "undo")


class Several(Led):
    def test_one_behind_the_other_and_one_for_undo(self):
        evening = Evening(MEAL, BOOK)
        evening.go(1)
        before = shown(evening)
        deeds = [("go", 9), ["call", "rice"], ("put", "egg", 1, 2, "rice", 0), ("change", "tea", "egg", 1),
                 ("wish", (("start", "egg"), "clock", 0)), ("go", 1), ("call", "egg"), ("go", 1)]
        self.assertIsNone(evening.several(deeds))
        plain = Evening(MEAL, BOOK)
        plain.go(1)
        for word, *arguments in deeds:
            getattr(plain, word)(*arguments)
        self.assertEqual(shown(evening), shown(plain))
        self.assertEqual(evening.state("tea"), ("runs", 12))
        evening.undo()
        self.assertEqual(shown(evening), before)
        evening.several(deeds=tuple(deeds))
        self.assertEqual(shown(evening), shown(plain))
        evening.undo()
        evening.undo()
        self.refused(evening, NothingBack, {}, "undo")

    def test_an_empty_row_of_deeds_is_none(self):
        evening = Evening(MEAL, BOOK)
        self.assertIsNone(evening.several([]))
        self.refused(evening, NothingBack, {}, "undo")
        evening.go(1)
        evening.several(())
        evening.undo()
        self.assertEqual(evening.minute(), 0)

    def check_refused(self, evening, deeds, index, error, attributes=None):
        before = shown(evening)
        with self.assertRaises(Refused) as caught:
            evening.several(deeds)
        self.assertEqual(caught.exception.index, index)
        if error is None:
            self.assertIsNone(caught.exception.error)
        else:
            self.assertIs(type(caught.exception.error), error)
            self.assertEqual(vars(caught.exception.error), attributes)
        self.assertEqual(shown(evening), before)

    def test_a_row_that_fails_at_its_last_deed(self):
        evening = Evening(MEAL, BOOK)
        first = [("go", 9), ("go", 1), ("call", "rice")]
        for deed, error, attributes in (
                (("go", 0), BadMinutes, {"minutes": 0}), (("go", 3), Overdue, {"name": "fish"}),
                (("call", "rice"), NotRunning, {"name": "rice"}), (("call", "pie"), NoDish, {"name": "pie"}),
                (("call", "egg"), NoDish, {"name": "egg"}),
                (("put", "tea", 1, 2, "clock", 11), BadDish, {"name": "tea"}),
                (("put", "egg", 1, 2, "egg", 11), BadRow, {"name": "egg"}),
                (("put", "egg", 1, 2, "clock", 9), TooEarly, {"name": "egg"}),
                (("change", "fish", "clock", 11), Started, {"name": "fish"}),
                (("change", "tea", "tea", 0), Round, {"names": ["tea"]}), (("wish", None), BadWish, {"index": 2}),
                (("call", "tea"), NotRunning, {"name": "tea"})):
            self.check_refused(evening, first + [deed], 3, error, attributes)
            self.check_refused(evening, first + [deed, ("go", 1), None], 3, error, attributes)
        self.check_refused(evening, [("call", "rice"), None], 0, TooSoon, {"name": "rice"})
        self.refused(evening, NothingBack, {}, "undo")
        evening.several(first)
        evening.undo()
        self.assertEqual(evening.minute(), 0)

    def test_things_that_are_no_deeds(self):
        evening = Evening(MEAL, BOOK)
        evening.go(2)
        wrong = any_objects() + [
            ("go",), ("go", 1, 1), ("call",), ("call", "rice", "rice"), ("put", "egg", 1, 2, "clock"), ("wish",),
            ("put", "egg", 1, 2, "clock", 9, 9), ("change", "tea", "rice"), ("change", "tea", "rice", 0, 0),
            ("wish", "clock", "clock", 0), ("undo",), ("several", []), ("several", [("go", 1)]), ("minute",), ("rest",),
            ("mended",), ("follow", 1), ("state", "rice"), ("Go", 1), ("go ", 1), (["go"], 1), (("go",), 1), "go",
            ("go1",), {"go": 1}, {0: "go", 1: 1}, [("go", 1)], (True, 1), (None,), ({}, 1), [[], []]]
        for thing in wrong:
            self.check_refused(evening, [thing], 0, None)
            self.check_refused(evening, (("go", 1), ("put", "egg", 1, 2, "clock", 9), thing, ("go", 0)), 2, None)
        evening.undo()
        self.refused(evening, NothingBack, {}, "undo")

    def test_wrong_arguments_of_deeds(self):
        evening = Evening(MEAL, BOOK)
        for thing in any_objects():
            if not isinstance(thing, int) or isinstance(thing, bool) or thing < 1:
                self.check_refused(evening, [("go", 1), ("go", thing)], 1, BadMinutes, {"minutes": thing})
            self.check_refused(evening, [("go", 1), ("call", thing)], 1, NoDish, {"name": thing})
            self.check_refused(evening, [("go", 1), ("change", thing, None, None)], 1, NoDish, {"name": thing})
            self.check_refused(evening, [("go", 1), ("put", thing, 1, 2, "clock", 5)], 1, BadDish, {"name": thing})

    def test_what_is_passed_is_kept(self):
        evening = Evening(MEAL, BOOK)
        deeds = [["go", 1], ["wish", [["done", "fish"], "clock", -5]]]
        before = copy.deepcopy(deeds)
        evening.several(deeds)
        self.assertEqual(deeds, before)
        deeds[1][1][0][1] = "tea"
        deeds.clear()
        self.assertEqual(evening.meal().wishes()[2], (("done", "fish"), "clock", -5))


class AgainstThePlainWay(Led):
    def same(self, evening, plain):
        self.assertEqual(evening.minute(), plain.minute)
        self.assertEqual({name: evening.state(name) for name in sorted(plain.rows)},
                         {name: plain.state(name) for name in plain.rows})
        self.assertEqual(list(evening.meal().dishes().items()), sorted(plain.bounds.items()))
        self.assertEqual(evening.meal().wishes(), plain.wishes)
        self.assertEqual(evening.meal().stations(), plain.stations)
        self.assertEqual(list(evening.book().rows().items()), sorted(plain.rows.items()))

    def both(self, evening, plain, word, *arguments):
        """Do a deed in both ways; return what it is called that came of it."""
        try:
            wanted, word_of_error = plain.do(word, *arguments), "done"
        except Wrong as error:
            wanted, word_of_error = error.told, error.word
        try:
            found = getattr(evening, word)(*arguments)
            self.assertEqual(word_of_error, "done")
            self.assertEqual(repr(found), repr(wanted))
        except errors.KitchenError as error:
            self.assertEqual(type(error).__name__, word_of_error)
            told = tuple(vars(error).values())
            if word_of_error == "Refused":
                told = (error.index, type(error.error).__name__, tuple(vars(error.error).values()))
            self.assertEqual(told, wanted)
        self.same(evening, plain)
        return word_of_error

    def test_rows_of_deeds(self):
        rng = random.Random(40)
        counts = {}
        for _ in range(150):
            names = ["ham", "rice", "soup", "tea"][:rng.randint(0, 4)]
            meal = some_meal(rng, names, longest=5)
            rows = some_rows(rng, names, 3)
            evening, plain = Evening(meal, Book(rows)), Plain(meal, rows)
            self.same(evening, plain)
            for _ in range(25):
                chance = rng.random()
                if chance < 0.15:
                    word, arguments = "undo", ()
                elif chance < 0.3:
                    ahead = copy.deepcopy(plain)
                    deeds = [some_deed(rng, ahead, ["egg", "jam"]) for _ in range(rng.randint(0, 3))]
                    word, arguments = "several", (deeds,)
                else:
                    word, *arguments = some_deed(rng, plain, ["egg", "jam"])
                came = self.both(evening, plain, word, *arguments)
                counts[word, came] = counts.get((word, came), 0) + 1
        for word, came in (("go", "done"), ("go", "Overdue"), ("go", "BadMinutes"), ("call", "done"),
                           ("call", "NoDish"), ("call", "NotRunning"), ("call", "TooSoon"), ("put", "done"),
                           ("put", "BadDish"), ("put", "BadRow"), ("put", "TooEarly"), ("change", "done"),
                           ("change", "NoDish"), ("change", "Started"), ("change", "BadRow"), ("change", "Round"),
                           ("change", "TooEarly"),
                           ("wish", "done"), ("wish", "BadWish"), ("undo", "done"), ("undo", "NothingBack"),
                           ("several", "done"), ("several", "Refused")):
            self.assertGreater(counts.get((word, came), 0), 3, (word, came))


if __name__ == "__main__":
    unittest.main()
