"""Points 3 to 9: meals, moments, wishes and stations."""

import copy
import unittest
from unittest import mock

from cookcalls.errors import BadDish, BadStation, BadWish, Clash, NoDish, NoWish
from cookcalls.hangings import Hanging
from cookcalls.meals import Meal
from tests.things import any_keys, any_objects

DISHES = {"rice": (10, 12), "fish": (5, 9)}
WISHES = [(("done", "rice"), ("done", "fish"), 4), ("clock", ("start", "rice"), 0), (("start", "fish"), "clock", -5)]
STATIONS = [("rice", "fish"), ("fish", "rice")]


def full():
    return Meal(DISHES, WISHES, STATIONS)


class Meals(unittest.TestCase):
    def raised(self, error, call, *things, **named):
        with self.assertRaises(error) as caught:
            call(*things, **named)
        self.assertIs(caught.exception.__class__, error)
        return caught.exception


class Made(Meals):
    def test_dishes_ascending_wishes_and_stations_as_given(self):
        meal = full()
        self.assertEqual(list(meal.dishes().items()), [("fish", (5, 9)), ("rice", (10, 12))])
        self.assertEqual(meal.wishes(), WISHES)
        self.assertEqual(meal.stations(), STATIONS)

    def test_no_dishes_at_all(self):
        for meal in (Meal({}), Meal({}, [], []), Meal({}, (), ()), Meal({}, [("clock", "clock", -1)])):
            self.assertEqual(meal.dishes(), {})
            self.assertEqual(meal.stations(), [])
            self.assertEqual(len(meal), 0)
            self.assertEqual(list(meal), [])
        self.assertEqual(Meal({}).wishes(), [])

    def test_six_dishes_and_the_other_limits(self):
        names = ["f", "e", "d", "c", "b", "a"]
        dishes = {name: (1, 999999999) for name in names}
        wishes = [(("start", "a"), ("done", "f"), at - 999999999) for at in range(24)]
        meal = Meal(dishes, wishes, [names, names[:2], names[2:]])
        self.assertEqual(len(meal), 6)
        self.assertEqual(list(meal), sorted(names))
        self.assertEqual(list(meal.dishes()), sorted(names))
        self.assertEqual(meal.wishes(), wishes)
        self.assertEqual(meal.stations(), [tuple(names), tuple(names[:2]), tuple(names[2:])])

    def test_nothing_is_raised_somewhat_beyond_the_limits(self):
        dishes = {name: (10 ** 10, 10 ** 11) for name in "abcdefgh"}
        meal = Meal(dishes, [("clock", "clock", -10 ** 12)] * 30, [["a", "b"]] * 5)
        self.assertEqual((len(meal), len(meal.wishes()), len(meal.stations())), (8, 30, 5))

    def test_by_the_names_in_the_interface(self):
        meal = Meal(stations=STATIONS, wishes=WISHES, dishes=DISHES)
        self.assertEqual(meal, full())
        self.assertEqual(meal.more(wishes=WISHES), meal.more(WISHES))
        self.assertEqual(meal.less(index=1), meal.less(1))
        self.assertEqual(meal.taking(most=3, least=2, name="rice"), meal.taking("rice", 2, 3))

    def test_names_of_one_and_of_eight_letters(self):
        self.assertEqual(list(Meal({"z": (1, 1), "abcdefgh": (1, 1), "a": (1, 1)})), ["a", "abcdefgh", "z"])

    def test_least_may_equal_most(self):
        self.assertEqual(Meal({"rice": (7, 7)}).dishes(), {"rice": (7, 7)})
        self.assertEqual(Meal({"rice": (1, 1)}).dishes(), {"rice": (1, 1)})

    def test_lists_and_tuples_for_one_another_at_every_depth(self):
        lists = Meal(
            {"rice": [10, 12], "fish": [5, 9]},
            [[["done", "rice"], ["done", "fish"], 4], ["clock", ["start", "rice"], 0],
             [["start", "fish"], "clock", -5]],
            [["rice", "fish"], ["fish", "rice"]])
        tuples = Meal(DISHES, tuple(WISHES), tuple(STATIONS))
        mixed = Meal({"fish": [5, 9], "rice": (10, 12)}, (WISHES[0], list(WISHES[1]), WISHES[2]), (["rice", "fish"],
                     STATIONS[1]))
        for meal in (lists, tuples, mixed):
            self.assertEqual(meal, full())
            self.assertEqual(repr(meal.dishes()), repr(full().dishes()))
            self.assertEqual(repr(meal.wishes()), repr(WISHES))
            self.assertEqual(repr(meal.stations()), repr(STATIONS))

    def test_what_is_passed_is_not_changed(self):
        dishes = {"rice": [10, 12], "fish": [5, 9]}
        wishes = [[["done", "rice"], ["done", "fish"], 4]]
        stations = [["rice", "fish"]]
        before = copy.deepcopy([list(dishes.items()), wishes, stations])
        meal = Meal(dishes, wishes, stations)
        meal.more(wishes).less(0).taking("rice", 1, 2)
        self.assertEqual([list(dishes.items()), wishes, stations], before)

    def test_later_changes_of_what_was_passed(self):
        dishes = {"rice": [10, 12], "fish": [5, 9]}
        wishes = [[["done", "rice"], ["done", "fish"], 4]]
        stations = [["rice", "fish"]]
        meal = Meal(dishes, wishes, stations)
        longer = meal.more(wishes)
        dishes["rice"][0] = 1
        dishes["soup"] = [1, 1]
        wishes[0][0][1] = "fish"
        wishes[0][2] = 99
        wishes.clear()
        stations[0].reverse()
        stations.append(["fish", "rice"])
        wish = (("done", "rice"), ("done", "fish"), 4)
        self.assertEqual(meal, Meal(DISHES, [wish], [("rice", "fish")]))
        self.assertEqual(longer, Meal(DISHES, [wish, wish], [("rice", "fish")]))

    def test_later_changes_of_what_was_handed_out(self):
        meal = full()
        meal.dishes().clear()
        meal.dishes()["fish"] = (1, 1)
        meal.wishes().clear()
        meal.stations().append(("rice", "fish"))
        self.assertEqual(meal, full())
        self.assertEqual(list(meal), ["fish", "rice"])
        self.assertIsNot(meal.dishes(), meal.dishes())
        self.assertIsNot(meal.wishes(), meal.wishes())
        self.assertIsNot(meal.stations(), meal.stations())

    def test_kinds_of_what_is_handed_out(self):
        for meal in (full(), full().more(WISHES), full().less(0), full() + Meal({}), full().taking("rice", 1, 2)):
            self.assertIs(meal.__class__, Meal)
            self.assertIs(meal.dishes().__class__, dict)
            self.assertIs(meal.wishes().__class__, list)
            self.assertIs(meal.stations().__class__, list)
            for thing in [*meal.dishes().values(), *meal.wishes(), *meal.stations()]:
                self.assertIs(thing.__class__, tuple)


class BadDishes(Meals):
    def test_keys_that_are_no_names(self):
        for key in any_keys():
            caught = self.raised(BadDish, Meal, {"rice": (1, 2), key: (1, 2), "fish": (1, 2)})
            self.assertEqual(repr(caught.name), repr(key))

    def test_things_that_are_no_pairs_of_bounds(self):
        for thing in any_objects() + [(0, 1), (0, 0), (-3, 4), (3, 2), (1,), (1, 2, 3), (1, "2"), ("1", 2), "12",
                                      (None, 2), (1, None), ([1], 2), {1: 2, 3: 4}, {"least": 1, "most": 2}]:
            if thing not in ((1, 2), [1, 2]):
                self.assertEqual(self.raised(BadDish, Meal, {"fish": (1, 2), "rice": thing}).name, "rice")

    def test_a_truth_stands_for_no_integer(self):
        for pair in ((True, 2), (True, True), (1, True), [True, 1], (False, 2)):
            self.assertEqual(self.raised(BadDish, Meal, {"rice": pair}).name, "rice")

    def test_the_first_one_in_the_order_of_the_dict(self):
        self.assertEqual(self.raised(BadDish, Meal, {"soup": (1, 2), "rice": 1, "fish": 2}).name, "rice")
        self.assertEqual(self.raised(BadDish, Meal, {"soup": (1, 2), "fish": 1, 3: (1, 2)}).name, "fish")
        self.assertEqual(self.raised(BadDish, Meal, {3: 1, "fish": 1}).name, 3)

    def test_a_later_change_does_not_reach_the_error(self):
        things = [1]
        caught = self.raised(NoDish, full().taking, things, 1, 2)
        things.append(2)
        self.assertEqual(caught.name, [1])


class BadWishes(Meals):
    def test_things_that_are_no_wishes(self):
        start, done = ("start", "rice"), ("done", "fish")
        wrong = [
            (start, done), (start, done, 1, 2), (start, done, "1"), (start, done, None), (start, done, True),
            (start, done, False), (start, done, [1]), (("start", "soup"), done, 1), (start, ("done", "soup"), 1),
            (("begin", "rice"), done, 1), (("rice", "start"), done, 1), ("rice", done, 1), (start, "Clock", 1),
            (("clock",), done, 1), (("clock", "rice"), done, 1), (start, ("done", "clock"), 1), (start, None, 1),
            (("start", "rice", 1), done, 1), (("start",), done, 1), ((), done, 1), (start, {}, 1), (start, 0, 1),
            (("start", ["rice"]), done, 1), ((["start"], "rice"), done, 1), (start, {"done": "fish"}, 1),
            (start, ("done", 1), 1), (start, ("done", None), 1), {0: start, 1: done, 2: 3}, "abc",
            {"start": "rice", "done": "fish", "most": 4}, (start, ("done", {}), 1), (start, ("done", ("fish",)), 1),
        ] + [thing for thing in any_objects() if thing != (("start", "rice"), "clock", 5)]
        for thing in wrong:
            self.assertEqual(self.raised(BadWish, Meal, DISHES, [thing]).index, 0, thing)
            self.assertEqual(self.raised(BadWish, Meal, DISHES, [*WISHES, thing, 7]).index, 3, thing)
            self.assertEqual(self.raised(BadWish, full().more, (WISHES[0], thing)).index, 1, thing)

    def test_wishes_that_are_no_list(self):
        for thing in any_objects() + ["abc"]:
            if not isinstance(thing, (list, tuple)):
                self.assertEqual(self.raised(BadWish, Meal, DISHES, thing).index, 0)
                self.assertEqual(self.raised(BadWish, Meal, {}, thing).index, 0)
                self.assertEqual(self.raised(BadWish, full().more, thing).index, 0)

    def test_moments_may_be_the_same_and_numbers_below_zero(self):
        wishes = [("clock", "clock", 0), (("start", "rice"), ("start", "rice"), -999999999),
                  (("done", "rice"), ("start", "rice"), 999999999)]
        self.assertEqual(Meal(DISHES, wishes).wishes(), wishes)


class BadStations(Meals):
    def test_things_that_are_no_stations(self):
        wrong = [["rice"], ["rice", "rice"], ["rice", "fish", "rice"], ["rice", "soup"], ["rice", "clock"],
                 ["rice", 1], ["rice", None], ["rice", ["fish"]], [["rice"], ["fish"]], "rf", {"rice": 1, "fish": 2},
                 ["rice", "fish", {}], ["rice", "fish", True], ("rice", ("start", "fish")), [{}, {}]] + any_objects()
        for thing in wrong:
            self.assertEqual(self.raised(BadStation, Meal, DISHES, (), [thing]).index, 0, thing)
            self.assertEqual(self.raised(BadStation, Meal, DISHES, (), (STATIONS[0], thing, 0)).index, 1, thing)

    def test_a_string_of_letters_is_no_list_of_names(self):
        self.raised(BadStation, Meal, {"a": (1, 2), "b": (1, 2)}, (), ["ab"])

    def test_stations_that_are_no_list(self):
        for thing in any_objects() + ["ab", {"rice": "fish"}]:
            if not isinstance(thing, (list, tuple)):
                self.assertEqual(self.raised(BadStation, Meal, DISHES, (), thing).index, 0)
                self.assertEqual(self.raised(BadStation, Meal, {}, [], thing).index, 0)

    def test_a_dish_may_stand_at_several_stations(self):
        dishes = {name: (1, 2) for name in "abc"}
        stations = [("c", "a"), ("a", "b", "c"), ("c", "a")]
        self.assertEqual(Meal(dishes, (), stations).stations(), stations)


class TheOrderOfErrors(Meals):
    def test_dishes_then_wishes_then_stations(self):
        self.raised(BadDish, Meal, {"rice": 1}, 5, 5)
        self.raised(BadDish, Meal, {"rice": 1}, [5], [5])
        self.raised(BadWish, Meal, DISHES, 5, 5)
        self.raised(BadWish, Meal, DISHES, [*WISHES, 5], [5])
        self.raised(BadStation, Meal, DISHES, WISHES, 5)

    def test_the_dish_then_its_bounds(self):
        self.assertEqual(self.raised(NoDish, full().taking, "soup", 0, 0).name, "soup")
        self.assertEqual(self.raised(BadDish, full().taking, "rice", 0, 0).name, "rice")


class Asked(Meals):
    def test_len(self):
        self.assertEqual(len(full()), 2)

    def test_in_tells_of_any_object(self):
        meal = full()
        self.assertIs("rice" in meal, True)
        self.assertIs("fish" in meal, True)
        self.assertIs("soup" in meal, False)
        for thing in any_objects():
            self.assertIs(thing in meal, False)
            self.assertIs(thing in Meal({}), False)

    def test_going_through_gives_the_dishes_ascending(self):
        meal = full()
        self.assertEqual(list(meal), ["fish", "rice"])
        self.assertEqual([(one, other) for one in meal for other in meal],
                         [("fish", "fish"), ("fish", "rice"), ("rice", "fish"), ("rice", "rice")])

    def test_equal_if_all_three_are(self):
        meal = full()
        self.assertIs(meal == Meal(dict(reversed(DISHES.items())), list(WISHES), list(STATIONS)), True)
        self.assertIs(meal != full(), False)
        for other in (Meal({**DISHES, "rice": (10, 13)}, WISHES, STATIONS), Meal(DISHES, WISHES[:2], STATIONS),
                      Meal(DISHES, WISHES[::-1], STATIONS), Meal(DISHES, WISHES, STATIONS[::-1]),
                      Meal(DISHES, WISHES, [STATIONS[0]] * 2), Meal({**DISHES, "soup": (1, 1)}, WISHES, STATIONS),
                      Meal(DISHES, WISHES), Meal({})):
            self.assertIs(meal == other, False)
            self.assertIs(meal != other, True)

    def test_equals_nothing_else(self):
        for thing in [*any_objects(), DISHES, (DISHES, WISHES, STATIONS), mock.ANY,
                      Hanging({"rice": "clock", "fish": "clock"})]:
            self.assertIs(full() == thing, False)
            self.assertIs(full() != thing, True)
        self.assertIs(Meal({}) == {}, False)
        self.assertIs(Meal({}) == Hanging({}), False)


class Changed(Meals):
    def test_more(self):
        further = [[["done", "fish"], "clock", 3], ["clock", "clock", 1]]
        longer = full().more(further)
        self.assertEqual(longer.wishes(), WISHES + [(("done", "fish"), "clock", 3), ("clock", "clock", 1)])
        self.assertEqual((longer.dishes(), longer.stations()), (DISHES, STATIONS))
        self.assertEqual(full().more(()), full())
        self.assertEqual(full().more(tuple(further)), longer)

    def test_more_counts_the_index_among_the_further_wishes(self):
        self.assertEqual(self.raised(BadWish, full().more, [5]).index, 0)
        self.assertEqual(self.raised(BadWish, full().more, [WISHES[0], WISHES[0], 5, 6]).index, 2)

    def test_the_meal_itself_stays_as_it_is(self):
        meal = full()
        meal.more(WISHES)
        meal.less(0)
        meal.taking("rice", 1, 1)
        self.assertIsInstance(meal + Meal({}), Meal)
        for call in (lambda: meal.more([WISHES[0], 5]), lambda: meal.less(3), lambda: meal.taking("rice", 0, 1),
                     lambda: meal + meal):
            with self.assertRaises(ValueError):
                call()
        self.assertEqual(meal, full())

    def test_less_at_both_ends(self):
        self.assertEqual(full().less(0), Meal(DISHES, WISHES[1:], STATIONS))
        self.assertEqual(full().less(1), Meal(DISHES, [WISHES[0], WISHES[2]], STATIONS))
        self.assertEqual(full().less(2), Meal(DISHES, WISHES[:2], STATIONS))

    def test_less_without_such_a_wish(self):
        for index in [3, -1, -3, 10 ** 9, True, False, None, "0", "", (0,), [0], {}, {0: 0}, *any_objects()[5:]]:
            self.assertEqual(repr(self.raised(NoWish, full().less, index).index), repr(index))
        for index in any_objects():
            self.assertEqual(repr(self.raised(NoWish, Meal({}).less, index).index), repr(index))

    def test_taking(self):
        self.assertEqual(full().taking("rice", 1, 1), Meal({**DISHES, "rice": (1, 1)}, WISHES, STATIONS))
        self.assertEqual(list(full().taking("fish", 2, 999999999).dishes().items()),
                         [("fish", (2, 999999999)), ("rice", (10, 12))])

    def test_taking_of_no_dish(self):
        for name in ["soup", *any_objects()]:
            self.assertEqual(repr(self.raised(NoDish, full().taking, name, 1, 2).name), repr(name))
            self.raised(NoDish, Meal({}).taking, name, 1, 2)

    def test_taking_no_bounds(self):
        for least, most in ((0, 1), (2, 1), (-1, 1), (True, 2), (1, True), ("1", 2), (1, "2"), (0, 0)):
            self.assertEqual(self.raised(BadDish, full().taking, "rice", least, most).name, "rice")
        for thing in any_objects():
            if thing not in (1, 5, 24, 10 ** 9) or isinstance(thing, bool):
                self.raised(BadDish, full().taking, "rice", thing, 10 ** 9)
                self.raised(BadDish, full().taking, "rice", 1, thing)

    def test_both_meals(self):
        more = Meal({"soup": (3, 3), "egg": (4, 5)}, [("clock", ("done", "egg"), 9)], [["soup", "egg"]])
        both = full() + more
        self.assertEqual(list(both.dishes().items()),
                         [("egg", (4, 5)), ("fish", (5, 9)), ("rice", (10, 12)), ("soup", (3, 3))])
        self.assertEqual(both.wishes(), WISHES + [("clock", ("done", "egg"), 9)])
        self.assertEqual(both.stations(), STATIONS + [("soup", "egg")])
        self.assertEqual((more + full()).wishes(), [("clock", ("done", "egg"), 9)] + WISHES)
        self.assertEqual((more + full()).stations(), [("soup", "egg")] + STATIONS)
        self.assertEqual(full() + Meal({}), full())
        self.assertEqual(Meal({}) + full(), full())
        self.assertEqual(Meal({}) + Meal({}), Meal({}))

    def test_clash_with_the_least_name_of_both(self):
        one = Meal({name: (1, 2) for name in ("soup", "rice", "egg")})
        other = Meal({name: (1, 2) for name in ("soup", "fish", "rice")})
        self.assertEqual(self.raised(Clash, lambda: one + other).name, "rice")
        self.assertEqual(self.raised(Clash, lambda: other + one).name, "rice")
        self.assertEqual(self.raised(Clash, lambda: one + one).name, "egg")


if __name__ == "__main__":
    unittest.main()
