"""Points 3 to 5, 11 and 12: hangings."""

import inspect
import itertools
import unittest
from unittest import mock

from cookcalls.errors import BadRow, NoDish, Round
from cookcalls.hangings import Hanging, hangings
from cookcalls.meals import Meal
from tests.things import any_keys, any_objects

ROWS = {"soup": "rice", "rice": "egg", "fish": "clock", "egg": "clock", "bread": "egg"}


class Hangings(unittest.TestCase):
    def raised(self, error, call, *things, **named):
        with self.assertRaises(error) as caught:
            call(*things, **named)
        self.assertIs(caught.exception.__class__, error)
        return caught.exception


class Made(Hangings):
    def test_rows_and_dishes_ascending(self):
        hanging = Hanging(ROWS)
        self.assertEqual(list(hanging.rows().items()), sorted(ROWS.items()))
        self.assertEqual(hanging.dishes(), ["bread", "egg", "fish", "rice", "soup"])
        self.assertEqual(list(hanging), hanging.dishes())
        self.assertEqual([(one, other) for one in hanging for other in hanging],
                         list(itertools.product(hanging.dishes(), repeat=2)))

    def test_by_the_names_in_the_interface(self):
        self.assertEqual(Hanging(rows=ROWS), Hanging(ROWS))
        self.assertEqual(Hanging(ROWS).way(name="soup"), ["egg", "rice"])

    def test_no_dishes_at_all(self):
        hanging = Hanging({})
        self.assertEqual((hanging.rows(), hanging.dishes(), hanging.looks(), list(hanging)), ({}, [], [], []))

    def test_six_dishes_and_names_of_one_and_of_eight_letters(self):
        rows = {"abcdefgh": "z", "z": "clock", "a": "abcdefgh", "b": "a", "c": "b", "d": "c"}
        hanging = Hanging(rows)
        self.assertEqual(hanging.way("d"), ["z", "abcdefgh", "a", "b", "c"])
        self.assertEqual(hanging.looks(), ["a", "abcdefgh", "b", "c", "z"])

    def test_later_changes(self):
        rows = dict(ROWS)
        hanging = Hanging(rows)
        rows["egg"] = "fish"
        rows["tea"] = "clock"
        hanging.rows().clear()
        hanging.dishes().clear()
        hanging.looks().clear()
        hanging.way("soup").clear()
        self.assertEqual(hanging, Hanging(ROWS))
        self.assertEqual(hanging.dishes(), sorted(ROWS))
        self.assertEqual(hanging.way("soup"), ["egg", "rice"])
        self.assertEqual(hanging.looks(), ["egg", "rice"])

    def test_what_is_passed_is_not_changed(self):
        rows = dict(ROWS)
        Hanging(rows).rows()
        self.assertEqual(list(rows.items()), list(ROWS.items()))


class Asked(Hangings):
    def test_way(self):
        hanging = Hanging(ROWS)
        ways = {name: hanging.way(name) for name in hanging}
        self.assertEqual(ways, {"bread": ["egg"], "egg": [], "fish": [], "rice": ["egg"], "soup": ["egg", "rice"]})

    def test_way_of_no_dish(self):
        for name in ["tea", *any_objects()]:
            self.assertEqual(repr(self.raised(NoDish, Hanging(ROWS).way, name).name), repr(name))
            self.raised(NoDish, Hanging({}).way, name)

    def test_looks(self):
        self.assertEqual(Hanging(ROWS).looks(), ["egg", "rice"])
        self.assertEqual(Hanging({"a": "clock", "b": "clock"}).looks(), [])
        self.assertEqual(Hanging({"c": "clock", "a": "c", "b": "c"}).looks(), ["c"])

    def test_equal_if_the_rows_are(self):
        hanging = Hanging(ROWS)
        self.assertIs(hanging == Hanging(dict(reversed(ROWS.items()))), True)
        self.assertIs(hanging != Hanging(ROWS), False)
        for other in (Hanging({**ROWS, "egg": "fish"}), Hanging({**ROWS, "tea": "clock"}), Hanging({})):
            self.assertIs(hanging == other, False)
            self.assertIs(hanging != other, True)

    def test_equals_nothing_else(self):
        for thing in [*any_objects(), ROWS, mock.ANY, list(ROWS), Meal({name: (1, 2) for name in ROWS})]:
            self.assertIs(Hanging(ROWS) == thing, False)
            self.assertIs(Hanging(ROWS) != thing, True)
        self.assertIs(Hanging({}) == {}, False)
        self.assertIs(Hanging({}) == Meal({}), False)


class BadRows(Hangings):
    def test_keys_that_are_no_names(self):
        for key in any_keys():
            caught = self.raised(BadRow, Hanging, {"rice": "clock", key: "clock", "fish": 5})
            self.assertEqual(repr(caught.name), repr(key))

    def test_things_that_are_neither_the_clock_nor_a_key(self):
        for thing in ["tea", "Clock", *any_objects()]:
            if thing != "clock":
                caught = self.raised(BadRow, Hanging, {"fish": "clock", "rice": thing, "soup": thing})
                self.assertEqual(caught.name, "rice", thing)

    def test_the_first_one_in_the_order_of_the_dict(self):
        self.assertEqual(self.raised(BadRow, Hanging, {"soup": "tea", "fish": 1, 2: 3}).name, "soup")
        self.assertEqual(self.raised(BadRow, Hanging, {2: "clock", "soup": "tea"}).name, 2)

    def test_a_key_that_is_no_name_may_be_hung_on_but_is_bad_itself(self):
        for key in any_keys():
            if key != "clock":
                caught = self.raised(BadRow, Hanging, {"rice": key, key: "clock"})
                self.assertEqual(repr(caught.name), repr(key))

    def test_a_truth_is_not_the_key_of_an_integer(self):
        for key, thing in ((1, True), (True, 1), (0, False), ((1, 2), (True, 2)), ((("a", 0),), (("a", False),))):
            self.assertEqual(self.raised(BadRow, Hanging, {"rice": thing, key: "clock"}).name, "rice")
        self.assertEqual(self.raised(BadRow, Hanging, {"rice": [1, 2], (1, 2): "clock"}).name, "rice")
        self.assertEqual(self.raised(BadRow, Hanging, {"rice": (1,), (1, 2): "clock"}).name, "rice")
        self.assertEqual(self.raised(BadRow, Hanging, {"rice": ("a", "b"), "ab": "clock"}).name, "rice")
        self.assertEqual(self.raised(BadRow, Hanging, {"rice": (1,), 1: "clock"}).name, "rice")

    def test_bad_rows_ahead_of_rounds(self):
        self.assertEqual(self.raised(BadRow, Hanging, {"a": "b", "b": "a", "c": "d"}).name, "c")
        self.assertEqual(self.raised(BadRow, Hanging, {"a": "a", "clock": "clock"}).name, "clock")


class Rounds(Hangings):
    def rounds(self, rows):
        return self.raised(Round, Hanging, rows).names

    def test_a_dish_that_hangs_on_itself(self):
        self.assertEqual(self.rounds({"a": "a"}), ["a"])
        self.assertEqual(self.rounds({"a": "clock", "b": "b", "c": "a"}), ["b"])

    def test_each_hangs_on_the_next_and_the_last_on_the_first(self):
        self.assertEqual(self.rounds({"a": "b", "b": "a"}), ["a", "b"])
        self.assertEqual(self.rounds({"c": "b", "b": "d", "d": "c", "e": "clock"}), ["b", "d", "c"])
        self.assertEqual(self.rounds({"a": "f", "b": "a", "c": "b", "d": "c", "e": "d", "f": "e"}),
                         ["a", "f", "e", "d", "c", "b"])

    def test_the_least_name_that_stands_in_a_round_not_one_that_leads_to_it(self):
        self.assertEqual(self.rounds({"a": "c", "b": "a", "c": "d", "d": "c"}), ["c", "d"])

    def test_of_several_rounds_the_one_with_the_least_name(self):
        self.assertEqual(self.rounds({"e": "b", "c": "f", "f": "c", "b": "e", "d": "clock"}), ["b", "e"])
        self.assertEqual(self.rounds({"c": "c", "b": "b", "a": "c"}), ["b"])

    def test_all_ways_to_hang_four_dishes(self):
        names = list("abcd")
        for hooks in itertools.product(["clock", *names], repeat=4):
            rows = dict(zip(names, hooks))
            try:
                hanging = Hanging(rows)
            except Round as caught:
                found = caught.names
                self.assertEqual([rows[name] for name in found], [*found[1:], found[0]])
                self.assertEqual(len(set(found)), len(found))
                self.assertEqual(found[0], min(name for name in names if self.comes_back(name, rows)))
            else:
                self.assertFalse([name for name in names if self.comes_back(name, rows)])
                for name in names:
                    way = hanging.way(name)
                    self.assertEqual([rows[dish] for dish in [*way, name]], ["clock", *way])
                self.assertEqual(hanging.looks(), sorted(set(hooks) - {"clock"}))

    def comes_back(self, name, rows):
        at = rows[name]
        for _ in rows:
            if at == name:
                return True
            at = rows.get(at, "clock")
        return False


class AllHangings(Hangings):
    def by_hand(self, names, looks):
        hooks = ["clock"] + [name for name in names if name in looks]
        found = []
        for chosen in itertools.product(hooks, repeat=len(names)):
            try:
                found.append(Hanging(dict(zip(names, chosen))))
            except Round:
                continue
        return self.told(found)

    def told(self, found):
        return sorted(tuple(hanging.rows().items()) for hanging in found)

    def test_each_once_for_all_parts_of_four_names_as_looks(self):
        names = list("dbca")
        for many in range(5):
            for looks in itertools.combinations(names, many):
                self.assertEqual(self.told(hangings(names, looks)), self.by_hand(names, looks))

    def test_the_number_for_all_looks(self):
        for many in range(1, 7):
            names = list("abcdef")[:many]
            self.assertEqual(len(set(self.told(hangings(names, names)))), (many + 1) ** (many - 1))
            self.assertEqual(sum(1 for _ in hangings(names, names)), (many + 1) ** (many - 1))

    def test_no_dishes_and_no_looks(self):
        self.assertEqual(list(hangings([], [])), [Hanging({})])
        self.assertEqual(list(hangings([], ["a", "b"])), [Hanging({})])
        self.assertEqual(list(hangings(["b", "a"], [])), [Hanging({"a": "clock", "b": "clock"})])
        self.assertEqual(list(hangings(["a"], ["a"])), [Hanging({"a": "clock"})])

    def test_looks_that_are_no_names_of_the_first_list(self):
        names = ["a", "b", "c"]
        self.assertEqual(self.told(hangings(names, ["x", "b", "y", "clock"])), self.by_hand(names, ["b"]))
        self.assertEqual(self.told(hangings(names, ["x"])), self.by_hand(names, []))
        self.assertEqual(self.told(hangings(names, [*any_objects(), "b"])), self.by_hand(names, ["b"]))

    def test_a_look_that_stands_twice(self):
        self.assertEqual(self.told(hangings(["a", "b"], ["a", "a", "b", "a"])), self.by_hand(["a", "b"], ["a", "b"]))

    def test_tuples_for_lists_and_the_names_in_the_interface(self):
        self.assertEqual(self.told(hangings(("a", "b"), ("b",))), self.by_hand(["a", "b"], ["b"]))
        self.assertEqual(self.told(hangings(looks=["b"], names=["a", "b"])), self.by_hand(["a", "b"], ["b"]))

    def test_it_is_a_generator_that_makes_each_when_it_is_asked_for(self):
        found = hangings(list("abcdef"), list("abcdef"))
        self.assertTrue(inspect.isgenerator(found))
        # With so many dishes nobody could wait for the hangings to be made ahead.
        names = [one + other for one in "abcdefghij" for other in "abc"]
        many = hangings(names, names)
        self.assertEqual(next(many).dishes(), names)
        self.assertNotEqual(next(many), next(many))

    def test_lists_stay_as_they_are_and_later_changes_have_no_effect(self):
        names, looks = ["b", "a"], ["b"]
        found = hangings(names, looks)
        first = next(found)
        first.rows().clear()
        names.append("c")
        looks.append("a")
        self.assertEqual(self.told([first, *found]), self.by_hand(["a", "b"], ["b"]))
        names, looks = ["b", "a"], ["b", "x"]
        list(hangings(names, looks))
        self.assertEqual((names, looks), (["b", "a"], ["b", "x"]))


if __name__ == "__main__":
    unittest.main()
