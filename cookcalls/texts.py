"""Texts of meals and books."""

from cookcalls.books import Book
from cookcalls.errors import BadText
from cookcalls.kinds import CLOCK, is_name
from cookcalls.meals import Meal
from cookcalls.moments import EDGES, is_bounds, is_station, is_wish

DIGITS = "0123456789"
SIGNS = ("+", "-")


def write(thing):
    """Return the text of a meal or a book."""
    if isinstance(thing, Book):
        rows = thing.rows()
        return "\n".join(["book"] + [f"{name} {rows[name][0]} {rows[name][1]}" for name in rows])
    dishes = thing.dishes()
    lines = [f"{name} {dishes[name][0]} {dishes[name][1]}" for name in dishes]
    lines = lines + [f"wish {word_of(one)} {word_of(other)} {most}" for one, other, most in thing.wishes()]
    return "\n".join(["meal"] + lines + [" ".join(["station", *names]) for names in thing.stations()])


def word_of(moment):
    """Return how a moment is written."""
    if moment == CLOCK:
        return CLOCK
    edge, name = moment
    return SIGNS[EDGES.index(edge)] + name


def read(text):
    """Return the meal or the book that has this text."""
    lines = text.split("\n")
    if lines[0] == "meal":
        return read_meal(lines[1:])
    if lines[0] == "book":
        return read_book(lines[1:])
    raise BadText(1)


def read_book(lines):
    """Return the book of these lines."""
    rows = {}
    for index, line in enumerate(lines):
        words = line.split(" ")
        if not is_row_line(words) or not is_behind_all(words[0], rows):
            raise BadText(index + 2)
        rows[words[0]] = (words[1], int(words[2]))
    return Book(rows)


def is_row_line(words):
    """Tell whether the words are those of a dish of a book."""
    if len(words) != 3 or not is_name(words[0]):
        return False
    return (words[1] == CLOCK or is_name(words[1])) and is_number(words[2])


def is_behind_all(name, names):
    """Tell whether all of the names are less."""
    return all([less < name for less in names])


def read_meal(lines):
    """Return the meal of these lines."""
    dishes, wishes, stations = {}, [], []
    for index, line in enumerate(lines):
        words = line.split(" ")
        if not (take_dish(words, dishes, wishes + stations) or take_wish(words, dishes, wishes, stations)
                or take_station(words, dishes, stations)):
            raise BadText(index + 2)
    return Meal(dishes, wishes, stations)


def take_dish(words, dishes, later):
    """Take the dish of a line up, if it is a line of one and may stand here; tell whether it is."""
    # A dish may be called wish or station, too: its numbers tell it from them.
    if len(words) != 3 or not is_number(words[1]) or not is_number(words[2]):
        return False
    name, bounds = words[0], (int(words[1]), int(words[2]))
    if later or not is_name(name) or not is_bounds(bounds) or not is_behind_all(name, dishes):
        return False
    dishes[name] = bounds
    return True


def take_wish(words, dishes, wishes, stations):
    """Take the wish of a line up, if it is a line of one and may stand here; tell whether it is."""
    if len(words) != 4 or words[0] != "wish" or not is_number(words[3]):
        return False
    wish = (moment_of(words[1]), moment_of(words[2]), int(words[3]))
    if stations or not is_wish(wish, dishes):
        return False
    wishes.append(wish)
    return True


def take_station(words, dishes, stations):
    """Take the station of a line up, if it is a line of one; tell whether it is."""
    if words[0] != "station" or not is_station(words[1:], dishes):
        return False
    stations.append(tuple(words[1:]))
    return True


def moment_of(word):
    """Return the moment that is written so, None if none is."""
    if word == CLOCK:
        return CLOCK
    if word[:1] not in SIGNS:
        return None
    return (EDGES[SIGNS.index(word[:1])], word[1:])


def is_number(word):
    """Tell whether the word is an integer as Python writes it."""
    digits = word[1:] if word[:1] == "-" else word
    if digits == "" or not all([sign in DIGITS for sign in digits]):
        return False
    return word == "0" or digits[0] != "0"
