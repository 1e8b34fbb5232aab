"""Points 13 to 15: books, their sums, their starts, and what is made of two of them."""

import itertools
import random
import unittest

from cookcalls.books import Book
from cookcalls.errors import BadRow, BadTimes, KitchenError, NoDish, Round, TooEarly, UnlikeHangings
from cookcalls.hangings import Hanging
from tests.things import any_keys, any_objects
from tests.trying import all_hooks, all_rows, minute, some_rows, sums_of

ROWS = {"soup": ("clock", 3), "rice": ("soup", 0), "fish": ("rice", 4), "tea": ("clock", 0)}
NAMES = ["fish", "rice", "soup", "tea"]


class Rows(unittest.TestCase):
    def test_rows_are_ascending_pairs(self):
        found = Book({"soup": ["clock", 3], "rice": ("soup", 0), "fish": ["rice", 4], "tea": ("clock", 0)}).rows()
        self.assertEqual(found, ROWS)
        self.assertEqual(list(found), NAMES)
        self.assertEqual([isinstance(pair, tuple) for pair in found.values()], [True] * 4)

    def test_going_through_a_book_gives_its_dishes_ascending(self):
        self.assertEqual(list(Book(ROWS)), NAMES)
        self.assertEqual([name for name in Book(dict(reversed(ROWS.items())))], NAMES)

    def test_hanging(self):
        hanging = Book(ROWS).hanging()
        self.assertEqual(hanging, Hanging({"soup": "clock", "rice": "soup", "fish": "rice", "tea": "clock"}))
        self.assertIsInstance(hanging, Hanging)

    def test_pairs_waits_and_sums_of_a_dish(self):
        book = Book(ROWS)
        self.assertEqual([book[name] for name in NAMES], [("rice", 4), ("soup", 0), ("clock", 3), ("clock", 0)])
        self.assertEqual([book.wait(name) for name in NAMES], [4, 0, 3, 0])
        self.assertEqual([book.added(name) for name in NAMES], [7, 3, 3, 0])
        self.assertEqual(book.added(name="fish"), book.added("fish"))
        self.assertEqual(book.wait(name="fish"), 4)
        self.assertIsInstance(book["tea"], tuple)

    def test_no_dishes_and_six(self):
        self.assertEqual(Book({}).rows(), {})
        self.assertEqual(list(Book({})), [])
        self.assertEqual(Book({}).hanging(), Hanging({}))
        rows = dict(zip("abcdef", zip(["clock", *"abcde"], [999999999] * 6)))
        book = Book(rows=rows)
        self.assertEqual(book.rows(), rows)
        self.assertEqual(book.added("f"), 6 * 999999999)

    def test_what_is_returned_is_new_and_what_is_passed_is_kept(self):
        rows = {"soup": ["clock", 3], "rice": ["soup", 0]}
        book = Book(rows)
        self.assertEqual(rows, {"soup": ["clock", 3], "rice": ["soup", 0]})
        rows["rice"][1] = 7
        rows["tea"] = ("clock", 1)
        book.rows()["tea"] = ("clock", 1)
        book.hanging().rows()["tea"] = "clock"
        book({"rice": 1, "soup": 1})["tea"] = (0, 0)
        self.assertEqual(book.rows(), {"rice": ("soup", 0), "soup": ("clock", 3)})
        self.assertEqual(book({"rice": 1, "soup": 2}), {"rice": (5, 6), "soup": (3, 5)})


class WrongRows(unittest.TestCase):
    def test_keys_that_are_no_names(self):
        for thing in any_keys():
            with self.assertRaises(BadRow) as caught:
                Book({"soup": ("clock", 0), thing: ("clock", 0), "rice": ("tea", 0)})
            self.assertEqual(repr(caught.exception.name), repr(thing))

    def test_values_that_are_no_pairs(self):
        wrong = any_objects() + ["clock", "soup", ("clock",), ("clock", 0, 0), ["soup"], [0, "clock"], {"clock": 0}]
        for thing in wrong:
            with self.assertRaises(BadRow) as caught:
                Book({"soup": ("clock", 0), "rice": thing, "tea": ("fish", 0)})
            self.assertEqual(caught.exception.name, "rice")

    def test_hooks_that_are_neither_the_clock_nor_a_key(self):
        for thing in any_objects() + ["fish", "Clock"]:
            if thing != "clock":
                with self.assertRaises(BadRow) as caught:
                    Book({"soup": ("clock", 0), "rice": (thing, 0), "tea": ("fish", 0)})
                self.assertEqual(caught.exception.name, "rice")

    def test_waits_that_are_no_integers_from_0_on(self):
        for thing in any_objects() + [-1, -999999999, "0", (0,), [0]]:
            if thing.__class__ != int or thing < 0:
                with self.assertRaises(BadRow) as caught:
                    Book({"soup": ("clock", 0), "rice": ("soup", thing), "tea": ("fish", 0)})
                self.assertEqual(caught.exception.name, "rice")

    def test_the_first_key_in_the_order_of_the_dict(self):
        with self.assertRaises(BadRow) as caught:
            Book({"tea": ("fish", 0), "rice": ("soup", -1), 5: ("clock", 0)})
        self.assertEqual(caught.exception.name, "tea")
        with self.assertRaises(BadRow) as caught:
            Book({5: ("clock", 0), "tea": ("fish", 0)})
        self.assertEqual(caught.exception.name, 5)

    def test_rounds(self):
        for rows, names in (
                ({"rice": ("rice", 0)}, ["rice"]),
                ({"tea": ("soup", 0), "soup": ("rice", 2), "rice": ("soup", 1)}, ["rice", "soup"]),
                ({"c": ("d", 0), "d": ("c", 0), "b": ("f", 0), "f": ("e", 0), "e": ("b", 0), "a": ("b", 0)},
                 ["b", "f", "e"])):
            with self.assertRaises(Round) as caught:
                Book(rows)
            self.assertEqual(caught.exception.names, names)

    def test_a_bad_row_comes_ahead_of_a_round(self):
        for wait in (-1, None, True, "0"):
            with self.assertRaises(BadRow) as caught:
                Book({"rice": ("rice", 0), "soup": ("clock", wait)})
            self.assertEqual(caught.exception.name, "soup")

    def test_names_that_are_no_dish(self):
        for book in (Book(ROWS), Book({})):
            for thing in any_objects() + ["ric", "ham"]:
                for deed in (lambda: book[thing], lambda: book.wait(thing), lambda: book.added(thing)):
                    with self.assertRaises(NoDish) as caught:
                        deed()
                    self.assertEqual(repr(caught.exception.name), repr(thing))


class Of(unittest.TestCase):
    HANGING = Hanging({"soup": "clock", "rice": "soup", "fish": "rice", "tea": "clock"})

    def test_the_dishes_have_these_sums(self):
        sums = {"fish": 7, "tea": 0, "soup": 3, "rice": 3}
        self.assertEqual(Book.of(self.HANGING, sums), Book(ROWS))
        self.assertEqual(Book.of(hanging=self.HANGING, sums=sums).rows(), ROWS)
        self.assertEqual(sums, {"fish": 7, "tea": 0, "soup": 3, "rice": 3})

    def test_further_keys_are_passed_over(self):
        sums = {"clock": 5, "ham": -1, 7: None, ("start", "tea"): 2, None: [], **{"fish": 7, "tea": 0, "soup": 3, "rice": 3}}
        self.assertEqual(Book.of(self.HANGING, sums), Book(ROWS))

    def test_too_early_with_the_least_name(self):
        for sums, name in (
                ({"fish": 7, "tea": -1, "soup": 3, "rice": 3}, "tea"),
                ({"fish": 2, "tea": -1, "soup": 3, "rice": 3}, "fish"),
                ({"tea": 0, "soup": 3, "rice": 2, "fish": 1}, "fish"),
                ({"tea": 0, "soup": 3, "rice": 2, "fish": 2}, "rice"),
                ({"tea": 0, "soup": -3, "rice": -3, "fish": -3}, "soup"),
                ({"tea": -9, "soup": -3, "rice": -4, "fish": -3}, "rice")):
            with self.assertRaises(TooEarly) as caught:
                Book.of(self.HANGING, {"clock": -99, **sums})
            self.assertEqual(caught.exception.name, name)

    def test_a_book_is_that_of_its_hanging_and_sums(self):
        rng = random.Random(13)
        for _ in range(60):
            rows = some_rows(rng, NAMES, 5)
            sums = {name: Book(rows).added(name) for name in NAMES}
            self.assertEqual(sums, sums_of(rows))
            self.assertEqual(Book.of(Book(rows).hanging(), sums).rows(), rows)

    def test_no_dishes(self):
        self.assertEqual(Book.of(Hanging({}), {}), Book({}))
        self.assertEqual(Book.of(Hanging({}), {"rice": -1}), Book({}))


class Equality(unittest.TestCase):
    def test_books_are_equal_if_their_rows_are(self):
        self.assertEqual(Book(ROWS), Book(dict(reversed(ROWS.items()))))
        self.assertIs(Book(ROWS) == Book({name: list(ROWS[name]) for name in ROWS}), True)
        self.assertIs(Book(ROWS) != Book(ROWS), False)
        for rows in ({**ROWS, "tea": ("clock", 1)}, {**ROWS, "tea": ("soup", 0)}, {**ROWS, "ham": ("clock", 0)},
                     {"soup": ("clock", 3)}, {}):
            self.assertIs(Book(ROWS) == Book(rows), False)
            self.assertIs(Book(ROWS) != Book(rows), True)

    def test_a_book_equals_nothing_else(self):
        for thing in any_objects() + [ROWS, Book(ROWS).hanging(), list(ROWS), KitchenError()]:
            self.assertIs(Book(ROWS) == thing, False)
            self.assertIs(thing == Book(ROWS), False)
            self.assertIs(Book(ROWS) != thing, True)
        self.assertNotEqual(Book({}), {})
        self.assertNotEqual(Book({}), Hanging({}))


class Starts(unittest.TestCase):
    def test_starts_and_dones(self):
        times = {"tea": 6, "fish": 5, "soup": 20, "rice": 10}
        found = Book(ROWS)(times)
        self.assertEqual(found, {"fish": (37, 42), "rice": (23, 33), "soup": (3, 23), "tea": (0, 6)})
        self.assertEqual(list(found), NAMES)
        self.assertEqual(list(times), ["tea", "fish", "soup", "rice"])
        self.assertIsInstance(found["tea"], tuple)
        self.assertEqual(Book(ROWS)(times=times), found)

    def test_times_of_0_and_of_nine_digits(self):
        self.assertEqual(Book(ROWS)({"tea": 0, "fish": 0, "soup": 0, "rice": 0}),
                         {"fish": (7, 7), "rice": (3, 3), "soup": (3, 3), "tea": (0, 0)})
        book = Book({"tea": ("clock", 999999999), "rice": ("tea", 999999999)})
        self.assertEqual(book({"tea": 999999999, "rice": 999999999}),
                         {"rice": (2999999997, 3999999996), "tea": (999999999, 1999999998)})

    def test_further_keys_are_passed_over(self):
        book = Book({"tea": ("clock", 2)})
        self.assertEqual(book({"ham": -1, "clock": 5, None: None, 4: 4, "tea": 1}), {"tea": (2, 3)})
        self.assertEqual(Book({})({"ham": -1}), {})
        self.assertEqual(Book({})({}), {})

    def test_bad_times_with_the_least_name(self):
        for times, name in (
                ({}, "fish"), ({"fish": 0}, "rice"), ({"fish": 0, "tea": 1, "rice": 0}, "soup"),
                ({"fish": 0, "soup": 1, "rice": 0}, "tea"),
                ({"tea": -1, "soup": 1, "rice": None, "fish": 0}, "rice"),
                ({"tea": -1, "soup": 1, "rice": 5, "fish": -1}, "fish")):
            with self.assertRaises(BadTimes) as caught:
                Book(ROWS)(times)
            self.assertEqual(caught.exception.name, name)

    def test_times_that_are_no_integers_from_0_on(self):
        for thing in any_objects() + ["5", -1, (5,)]:
            if thing.__class__ != int or thing < 0:
                with self.assertRaises(BadTimes) as caught:
                    Book(ROWS)({"fish": 5, "rice": 5, "soup": thing, "tea": thing})
                self.assertEqual(caught.exception.name, "soup")

    def test_against_following_each_dish(self):
        rng = random.Random(14)
        for _ in range(60):
            rows = some_rows(rng, NAMES, 5)
            times = {name: rng.randint(0, 9) for name in rng.sample(NAMES, 4)}
            self.assertEqual(Book(rows)(times), {name: (minute(rows, times, ("start", name)),
                                                        minute(rows, times, ("done", name))) for name in NAMES})


class Sums(unittest.TestCase):
    def test_more_and_fewer_minutes(self):
        book = Book(ROWS)
        self.assertEqual((book + 5).rows(), {**ROWS, "soup": ("clock", 8), "tea": ("clock", 5)})
        self.assertEqual(book + 0, book)
        self.assertEqual(book + 5 + -5, book)
        self.assertEqual(book.rows(), ROWS)
        self.assertEqual((Book({"tea": ("clock", 3)}) + -3).rows(), {"tea": ("clock", 0)})
        self.assertEqual(Book({}) + -999999999, Book({}))
        self.assertIsInstance(book + 5, Book)

    def test_too_early_with_the_least_name(self):
        for rows, minutes, name in (
                (ROWS, -1, "tea"), (ROWS, -4, "soup"), (ROWS, -999999999, "soup"),
                ({"tea": ("clock", 2), "ham": ("tea", 0)}, -3, "tea"),
                ({"tea": ("clock", 2), "ham": ("clock", 1)}, -2, "ham")):
            book = Book(rows)
            with self.assertRaises(TooEarly) as caught:
                book + minutes
            self.assertEqual(caught.exception.name, name)
            self.assertEqual(book.rows(), rows)

    def test_lesser_and_greater_sums(self):
        one = Book({"soup": ("clock", 3), "rice": ("soup", 0), "fish": ("rice", 4)})
        other = Book({"soup": ("clock", 1), "rice": ("soup", 5), "fish": ("rice", 0)})
        self.assertEqual((one & other).rows(), {"soup": ("clock", 1), "rice": ("soup", 2), "fish": ("rice", 3)})
        self.assertEqual((one | other).rows(), {"soup": ("clock", 3), "rice": ("soup", 3), "fish": ("rice", 1)})
        self.assertEqual(one.rows(), {"soup": ("clock", 3), "rice": ("soup", 0), "fish": ("rice", 4)})
        self.assertEqual(Book({}) & Book({}), Book({}))
        self.assertEqual(Book({}) | Book({}), Book({}))

    def test_against_the_sums(self):
        hooks = {"tea": "clock", "rice": "tea", "ham": "tea"}
        books = [Book(rows) for rows in all_rows(hooks, 1)]
        for one, other in itertools.product(books, repeat=2):
            for name in hooks:
                self.assertEqual((one & other).added(name), min(one.added(name), other.added(name)))
                self.assertEqual((one | other).added(name), max(one.added(name), other.added(name)))
            self.assertEqual((one & other).hanging(), one.hanging())
            self.assertEqual((one | other).hanging(), one.hanging())
            self.assertEqual(one & other, other & one)
            self.assertEqual(one & (one | other), one)

    def test_unlike_hangings(self):
        found = [Book({name: (hooks[name], 0) for name in hooks}) for hooks in all_hooks(["ham", "rice"], ["ham", "rice"])]
        found += [Book({}), Book({"ham": ("clock", 0)})]
        for one, other in itertools.permutations(found, 2):
            with self.assertRaises(UnlikeHangings):
                one & other
            with self.assertRaises(UnlikeHangings):
                one | other


if __name__ == "__main__":
    unittest.main()
