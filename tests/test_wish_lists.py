"""Point 10: lists of wishes."""

import unittest

from cookcalls.meals import Meal, behind, keeping, ready_by, together


def done(name):
    return ("done", name)


class WishLists(unittest.TestCase):
    def test_together(self):
        self.assertEqual(together(["rice", "fish"], 4),
                         [(done("rice"), done("fish"), 4), (done("fish"), done("rice"), 4)])
        self.assertEqual(together(["c", "a", "b"], 0), [
            (done("c"), done("a"), 0), (done("a"), done("c"), 0),
            (done("c"), done("b"), 0), (done("b"), done("c"), 0),
            (done("a"), done("b"), 0), (done("b"), done("a"), 0)])

    def test_together_goes_by_the_earlier_and_then_by_the_later_one(self):
        names = ["d", "b", "a", "c"]
        pairs = [(one[1], other[1]) for one, other, _ in together(names, 1)[::2]]
        self.assertEqual(pairs, [("d", "b"), ("d", "a"), ("d", "c"), ("b", "a"), ("b", "c"), ("a", "c")])

    def test_together_of_none_or_one(self):
        self.assertEqual(together([], 4), [])
        self.assertEqual(together((), 4), [])
        self.assertEqual(together(["rice"], 4), [])

    def test_keeping(self):
        self.assertEqual(keeping("rice", ["soup", "fish"], 7),
                         [(done("rice"), done("soup"), 7), (done("rice"), done("fish"), 7)])
        self.assertEqual(keeping("rice", [], 7), [])

    def test_ready_by(self):
        self.assertEqual(ready_by(["soup", "fish"], 30), [("clock", done("soup"), 30), ("clock", done("fish"), 30)])
        self.assertEqual(ready_by((), 30), [])

    def test_behind(self):
        self.assertEqual(behind("rice", "fish", 5), [(("start", "rice"), done("fish"), -5)])
        self.assertEqual(behind("rice", "fish", -5), [(("start", "rice"), done("fish"), 5)])
        self.assertEqual(behind("rice", "fish", 0), [(("start", "rice"), done("fish"), 0)])

    def test_tuples_for_lists(self):
        names = ("rice", "fish", "soup")
        self.assertEqual(together(names, 4), together(list(names), 4))
        self.assertEqual(keeping("egg", names, 4), keeping("egg", list(names), 4))
        self.assertEqual(ready_by(names, 4), ready_by(list(names), 4))

    def test_by_the_names_in_the_interface(self):
        self.assertEqual(together(most=4, names=["a", "b"]), together(["a", "b"], 4))
        self.assertEqual(keeping(most=4, others=["b"], name="a"), keeping("a", ["b"], 4))
        self.assertEqual(ready_by(minute=4, names=["a"]), ready_by(["a"], 4))
        self.assertEqual(behind(least=4, other="b", name="a"), behind("a", "b", 4))

    def test_new_lists_of_tuples(self):
        names = ["a", "b", "c"]
        for call in (lambda: together(names, 4), lambda: keeping("d", names, 4), lambda: ready_by(names, 4),
                     lambda: behind("a", "b", 4)):
            first = call()
            before = list(first)
            self.assertIs(first.__class__, list)
            for wish in first:
                self.assertIs(wish.__class__, tuple)
                for moment in wish[:2]:
                    self.assertIn(moment.__class__, (str, tuple))
            first.clear()
            self.assertEqual(call(), before)
        wishes = together(names, 4)
        before = list(wishes)
        names.reverse()
        self.assertEqual(wishes, before)

    def test_six_names(self):
        names = list("fedcba")
        self.assertEqual(len(together(names, 9)), 30)
        self.assertEqual(len(set(together(names, 9))), 30)

    def test_they_are_wishes_of_a_meal(self):
        dishes = {"rice": (10, 12), "fish": (5, 9)}
        wishes = (together(["rice", "fish"], 4) + keeping("rice", ["fish"], 3) + ready_by(["rice"], 20)
                  + behind("rice", "fish", 1))
        self.assertEqual(Meal(dishes, wishes).wishes(), wishes)


if __name__ == "__main__":
    unittest.main()
