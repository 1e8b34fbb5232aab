"""Point 46: the texts of meals and books."""

import itertools
import random
import re
import unittest

from cookcalls.books import Book
from cookcalls.errors import BadRow, BadText, KitchenError, Round
from cookcalls.meals import Meal, behind, keeping, ready_by, together
from cookcalls.texts import read, write
from tests.trying import leads_to_clock, some_meal, some_rows

MEAL = Meal({"rice": (10, 12), "fish": (5, 9), "tea": (2, 2)},
            together(["rice", "fish"], 4) + behind("tea", "fish", 3) + [("clock", "clock", 0)],
            [["tea", "fish"], ["rice", "tea"]])
MEAL_TEXT = """meal
fish 5 9
rice 10 12
tea 2 2
wish -rice -fish 4
wish -fish -rice 4
wish +tea -fish -3
wish clock clock 0
station tea fish
station rice tea"""
BOOK = Book({"tea": ("fish", 0), "fish": ("rice", 12), "rice": ("clock", 3)})
BOOK_TEXT = "book\nfish rice 12\nrice clock 3\ntea fish 0"
# Words that are also those of lines, or of other things in them.
NAMES = ["book", "clocks", "done", "meal", "start", "station", "wish"]

NAME = r"(?!clock\b)[a-z]{1,8}"
NUMBER = r"(?:0|-?[1-9][0-9]*)"
MOMENT = rf"(?:clock|[+-](?:{NAME}))"


def as_moment(word):
    return word if word == "clock" else ({"+": "start", "-": "done"}[word[0]], word[1:])


def plain_read(text):
    """Read a text in a plain second way: return a pair of what it is and what it has, or ("bad", line)."""
    head, *lines = text.split("\n")
    if head not in ("meal", "book"):
        return ("bad", 1)
    if head == "book":
        rows = {}
        for at, line in enumerate(lines, 2):
            found = re.fullmatch(rf"({NAME}) (clock|{NAME}) ({NUMBER})", line)
            if not found or rows and max(rows) >= found[1]:
                return ("bad", at)
            rows[found[1]] = (found[2], int(found[3]))
        return ("book", rows)
    dishes, wishes, stations = {}, [], []
    for at, line in enumerate(lines, 2):
        if found := re.fullmatch(rf"({NAME}) ({NUMBER}) ({NUMBER})", line):
            good = 1 <= int(found[2]) <= int(found[3]) and not wishes and not stations
            good = good and (not dishes or max(dishes) < found[1])
            dishes[found[1]] = (int(found[2]), int(found[3]))
        elif found := re.fullmatch(rf"wish ({MOMENT}) ({MOMENT}) ({NUMBER})", line):
            wishes.append((as_moment(found[1]), as_moment(found[2]), int(found[3])))
            good = not stations and all(moment == "clock" or moment[1] in dishes for moment in wishes[-1][:2])
        else:
            good = re.fullmatch(rf"station(?: {NAME}){{2,}}", line)
            stations.append(tuple(line.split(" ")[1:]))
            good = good and set(stations[-1]) <= set(dishes) and len(set(stations[-1])) == len(stations[-1])
        if not good:
            return ("bad", at)
    return ("meal", (dishes, wishes, stations))


class Checks(unittest.TestCase):
    def check(self, text):
        """Hold what is read against the plain way; return what it is."""
        kind, wanted = plain_read(text)
        try:
            found = read(text)
        except BadText as error:
            self.assertEqual((kind, wanted), ("bad", error.line), text)
            return "bad"
        except BadRow as error:
            self.assertEqual(kind, "book")
            wrong = [name for name in wanted if wanted[name][0] not in ("clock", *wanted) or wanted[name][1] < 0]
            self.assertEqual(error.name, wrong[0])
            return "bad row"
        except Round as error:
            self.assertEqual(kind, "book")
            hooks = {name: hook for name, (hook, wait) in wanted.items()}
            self.assertFalse(all(leads_to_clock(name, hooks) for name in wanted))
            self.assertEqual([hooks[name] for name in error.names], error.names[1:] + error.names[:1])
            return "round"
        self.assertEqual(found, Book(wanted) if kind == "book" else Meal(*wanted))
        self.assertEqual(write(found), text)
        return kind

    def bad(self, text, line):
        with self.assertRaises(BadText) as caught:
            read(text)
        self.assertEqual(caught.exception.line, line, text)
        self.assertEqual(plain_read(text), ("bad", line))


class Write(Checks):
    def test_the_text_of_a_meal(self):
        self.assertEqual(write(MEAL), MEAL_TEXT)
        self.assertEqual(write(thing=MEAL), MEAL_TEXT)
        self.assertEqual(write(Meal({"a": (1, 999999999)}, [(["start", "a"], ("done", "a"), 999999999),
                                                            ("clock", ["done", "a"], -999999999)])),
                         "meal\na 1 999999999\nwish +a -a 999999999\nwish clock -a -999999999")

    def test_the_text_of_a_book(self):
        self.assertEqual(write(BOOK), BOOK_TEXT)
        self.assertEqual(write(Book({"b": ("clock", 0), "a": ("b", 999999999)})), "book\na b 999999999\nb clock 0")

    def test_no_dishes(self):
        self.assertEqual(write(Meal({})), "meal")
        self.assertEqual(write(Book({})), "book")
        self.assertEqual(write(Meal({}, [("clock", "clock", -1)])), "meal\nwish clock clock -1")


class Read(Checks):
    def test_a_meal_and_a_book(self):
        self.assertEqual(read(MEAL_TEXT), MEAL)
        self.assertEqual(read(text=BOOK_TEXT), BOOK)
        self.assertEqual(read("meal"), Meal({}))
        self.assertEqual(read("book"), Book({}))
        self.assertEqual(read("meal\nwish clock clock -1"), Meal({}, [("clock", "clock", -1)]))
        self.assertIsInstance(read("meal"), Meal)
        self.assertIsInstance(read("book"), Book)

    def test_names_that_are_words_of_lines(self):
        meal = Meal({name: (1, 2) for name in NAMES[:6]}, keeping("station", ["start", "book"], 5),
                    [["station", "meal"], ["done", "station", "start"]])
        self.assertEqual(read(write(meal)), meal)
        meal = Meal({name: (3, 4) for name in NAMES[1:]}, ready_by(["wish", "station"], 5) + behind("wish", "meal", 1),
                    [["wish", "station"], ["station", "wish", "meal"]])
        self.assertEqual(read(write(meal)), meal)
        self.assertEqual(read("meal\nstation 5 9\nwish 1 2\nwish +wish -station 3\nstation station wish"),
                         Meal({"station": (5, 9), "wish": (1, 2)}, [(("start", "wish"), ("done", "station"), 3)],
                              [["station", "wish"]]))
        book = Book({"book": ("clock", 1), "meal": ("book", 2), "station": ("wish", 0), "wish": ("meal", 3)})
        self.assertEqual(read(write(book)), book)
        self.assertEqual(read("book\nstation clock 5\nwish station 0"),
                         Book({"station": ("clock", 5), "wish": ("station", 0)}))

    def test_what_is_written_is_read(self):
        rng = random.Random(46)
        for _ in range(150):
            names = rng.sample(NAMES, rng.randint(0, 6))
            meal = some_meal(rng, names, longest=12, wishes=24, stations=3, most=999999999)
            self.assertEqual(read(write(meal)), meal)
            self.assertEqual(self.check(write(meal)), "meal")
            book = Book(some_rows(rng, names, 999999999))
            self.assertEqual(read(write(book)), book)
            self.assertEqual(self.check(write(book)), "book")

    def test_a_returned_thing_is_new(self):
        read(MEAL_TEXT).wishes().clear()
        self.assertEqual(read(MEAL_TEXT), MEAL)


class BadTexts(Checks):
    def test_heads(self):
        for text in ("", "\n", " ", "meals", "Meal", " meal", "meal ", "mea", "meal book", "book\r", "\nmeal", "clock",
                     "wish clock clock 0", "\nbook", "fish 5 9\nmeal", "0"):
            self.bad(text, 1)
            self.bad(text + "\nfish 5 9", 1)

    def test_ends(self):
        for text in (MEAL_TEXT, BOOK_TEXT, "meal", "book"):
            many = len(text.split("\n"))
            self.bad(text + "\n", many + 1)
            self.bad(text + "\n\n", many + 1)
            self.bad(text + "\n ", many + 1)

    def test_blanks(self):
        for text in (MEAL_TEXT, BOOK_TEXT):
            lines = text.split("\n")
            for at, line in enumerate(lines):
                for wrong in (line + " ", " " + line, line.replace(" ", "  "), line.replace(" ", ""), ""):
                    if wrong != line:
                        self.bad("\n".join([*lines[:at], wrong, *lines[at + 1:]]), at + 1)

    def test_numbers_that_python_writes_otherwise(self):
        for number in ("+5", "05", "-0", "--5", "5.0", "5_0", "0x5", "", "-", "five", "5e1", "00", "-05", "1-", "(5)"):
            for line in ("gin {} 9", "gin 1 {}", "wish clock -fish {}", "wish +fish clock {}"):
                self.bad("meal\nale 1 2\nfish 5 9\n" + line.format(number), 4)
            self.bad("book\nfish clock 3\ntea fish {}".format(number), 3)
            self.bad("book\nfish clock {}\ntea fish -1".format(number), 2)

    def test_dishes(self):
        for line in ("egg 0 5", "egg 6 5", "egg -1 5", "egg 5", "egg 5 9 9", "Egg 5 9", "clock 5 9", "egg1 5 9",
                     "gherkinss 5 9", "egg 5 x", "egg x 9", "egg clock 3", "+egg 5 9", "egg, 5 9", "egg\t5 9", "5 5 9"):
            self.bad("meal\n" + line, 2)
            self.bad("meal\nale 1 1\n" + line + "\nfish 5 9", 3)
        self.bad("meal\nfish 5 9\nfish 5 9", 3)
        self.bad("meal\nfish 5 9\negg 5 9\nzest 0 0", 3)
        self.bad("meal\na 1 1\nb 1 1\na 1 1", 4)
        self.bad("meal\na 1 1\nc 1 1\nb 1 1", 4)

    def test_wishes(self):
        for line in ("wish -fish 4", "wish -fish -rice", "wish -fish -rice 4 4", "wish fish rice 4",
                     "wish *fish -rice 4", "wish -egg -rice 4", "wish -fish +egg 4", "wish -clock -rice 4",
                     "wish clock clocks 4", "wish + - 4",
                     "Wish -fish -rice 4", "wishes -fish -rice 4", "wish -Fish -rice 4", "wish --fish -rice 4", "wish",
                     "wish +-fish -rice 4", "wish 4 -fish -rice", "wish -fish -rice x", "wish  clock 4"):
            self.bad("meal\nfish 5 9\nrice 10 12\n" + line, 4)
            self.bad("meal\nfish 5 9\nrice 10 12\nwish clock clock 0\n" + line + "\nstation rice fish", 5)

    def test_stations(self):
        for line in ("station", "station fish", "station fish fish", "station fish rice fish", "station fish egg",
                     "station fish clock", "station +fish -rice", "Station fish rice", "station fish rice 5",
                     "stations fish rice",
                     "station fish Rice", "station fish,rice", "fish rice"):
            self.bad("meal\nfish 5 9\nrice 10 12\n" + line, 4)
            self.bad("meal\nfish 5 9\nrice 10 12\nstation rice fish\n" + line + "\nrice", 5)

    def test_lines_in_a_wrong_order(self):
        dish, wish, station = "tea 2 2", "wish clock -fish 9", "station rice fish"
        head = "meal\nfish 5 9\nrice 10 12\n"
        for lines, line in (([wish, dish], 5), ([station, dish], 5), ([station, wish], 5), ([wish, station, wish], 6),
                            ([wish, station, dish], 6), ([dish, station, wish], 6), ([dish, wish, dish], 6)):
            self.bad(head + "\n".join(lines), line)
        self.assertEqual(self.check(head + "\n".join([dish, wish, wish, station, station])), "meal")
        self.bad("meal\nwish clock -fish 9\nfish 5 9", 2)
        self.bad("meal\nstation rice fish\nfish 5 9\nrice 10 12", 2)
        self.bad("meal\nfish 5 9\nwish clock -rice 9\nrice 10 12", 3)

    def test_books(self):
        for line in ("fish clock", "fish clock 5 5", "fish 5", "Fish clock 5", "clock clock 5", "fish Clock 5",
                     "fish 5 5", "fish clock x", "fish +rice 5", "fish rice1 5", "wish clock +fish 5",
                     "fish gherkinss 5", "fish  5", ""):
            self.bad("book\n" + line, 2)
            self.bad("book\nale clock 1\n" + line + "\nzest pie -5", 3)
        self.bad("book\nfish clock 5\nfish clock 5", 3)
        self.bad("book\nrice clock 5\nfish clock 5", 3)
        self.bad(BOOK_TEXT.replace("book", "meal"), 2)
        self.bad(MEAL_TEXT.replace("meal", "book"), 2)

    def test_rows_of_books_that_have_the_form(self):
        for text, name in (("book\nfish clock -1", "fish"), ("book\nfish pie 5", "fish"),
                           ("book\nale clock 0\nfish pie -5", "fish"),
                           ("book\nfish rice 0\nrice clock -1\ntea pie 0", "rice"),
                           ("book\na b 0\nb a 0\nc clock -3", "c")):
            with self.assertRaises(BadRow) as caught:
                read(text)
            self.assertEqual(caught.exception.name, name)
            self.assertEqual(self.check(text), "bad row")
            self.bad(text + "\nzest clock", len(text.split("\n")) + 1)
        for text, names in (("book\nfish fish 0", ["fish"]), ("book\na c 1\nb a 0\nc b 5", ["a", "c", "b"]),
                            ("book\na b 0\nb c 0\nc b 0", ["b", "c"])):
            with self.assertRaises(Round) as caught:
                read(text)
            self.assertEqual(caught.exception.names, names)
            self.assertEqual(self.check(text), "round")
            self.bad(text + "\n", len(text.split("\n")) + 1)


class ChangedTexts(Checks):
    def some_texts(self, seed, many):
        rng = random.Random(seed)
        for at in range(many):
            names = rng.sample(NAMES + ["ale", "bun", "x"], rng.randint(0, 4))
            if at % 2:
                yield rng, write(Book(some_rows(rng, names, 20)))
            else:
                yield rng, write(some_meal(rng, names, longest=20, wishes=4, most=20))

    def check_all(self, texts):
        found = {self.check(text) for text in texts}
        self.assertLessEqual(found, {"bad", "bad row", "round", "meal", "book"})
        return found

    def test_lines_taken_out_doubled_and_exchanged(self):
        kinds = set()
        for rng, text in self.some_texts(461, 60):
            lines = text.split("\n")
            for at in range(len(lines)):
                kinds |= self.check_all(["\n".join(lines[:at] + lines[at + 1:]),
                                         "\n".join(lines[:at + 1] + lines[at:])])
            for one, other in itertools.combinations(range(len(lines)), 2):
                turned = list(lines)
                turned[one], turned[other] = turned[other], turned[one]
                kinds |= self.check_all(["\n".join(turned)])
        self.assertLessEqual({"bad", "bad row", "meal", "book"}, kinds)

    def test_lines_put_in_and_changed(self):
        kinds = set()
        for rng, text in self.some_texts(462, 60):
            lines = text.split("\n")
            others = MEAL_TEXT.split("\n") + BOOK_TEXT.split("\n")
            others += ["", "wish clock clock 0", "ale 1 1", "x clock 0", "ale x 3"]
            for at, line in itertools.product(range(len(lines) + 1), others):
                kinds |= self.check_all(["\n".join([*lines[:at], line, *lines[at:]]),
                                         "\n".join([*lines[:at], line, *lines[at + 1:]])])
        self.assertLessEqual({"bad", "bad row", "meal", "book"}, kinds)

    def test_signs_taken_out_put_in_and_changed_at_each_place(self):
        kinds = set()
        for rng, text in self.some_texts(463, 30):
            for at in range(len(text) + 1):
                sign = rng.choice(" \n-+0159aceklotxz~A.")
                kinds |= self.check_all([text[:at] + text[at + 1:], text[:at] + sign + text[at:],
                                         text[:at] + sign + text[at + 1:]])
        self.assertLessEqual({"bad", "bad row", "meal", "book"}, kinds)

    def test_words_changed(self):
        kinds = set()
        for rng, text in self.some_texts(464, 80):
            words = re.split(r"([ \n])", text)
            for at in range(0, len(words), 2):
                for word in ("clock", "ale", "-1", "0", "7", "+ale", "-ale", "wish", "station", rng.choice(words[::2])):
                    kinds |= self.check_all(["".join([*words[:at], word, *words[at + 1:]])])
        self.assertEqual(kinds, {"bad", "bad row", "round", "meal", "book"})

    def test_all_errors_are_those_of_the_document(self):
        for rng, text in self.some_texts(465, 40):
            signs = list(text)
            rng.shuffle(signs)
            for wrong in ("".join(signs), text.upper(), text[::-1], text.replace("\n", " ")):
                if wrong not in ("meal", "book"):
                    self.assertRaises(KitchenError, read, wrong)


if __name__ == "__main__":
    unittest.main()
