"""Points 2, 5 and 6: forkplan.exprs."""

import random
import unittest

from forkplan.exprs import holds, names_in, worth
from samples import chance_condition, chance_expression, nested, reckoned

BOXES = [("a", 5), ("b", 3), ("lastone", 2)]
A, B, LAST = ("box", "a"), ("box", "b"), ("box", "lastone")
YES = ("yes",)
NO = ("not", YES)


def number(n):
    return ("number", n)


class Worth(unittest.TestCase):
    def check(self, expression, standing, expected):
        told = worth(expression, BOXES, standing)
        self.assertEqual(told, expected)
        self.assertIs(type(told), int)

    def test_numbers(self):
        for n in range(10):
            self.check(number(n), (4, 2, 1), n)

    def test_boxes_by_their_places(self):
        self.check(A, (4, 2, 1), 4)
        self.check(B, (4, 2, 1), 2)
        self.check(LAST, (4, 2, 1), 1)
        self.check(LAST, (4, 2, 0), 0)

    def test_plus(self):
        self.check(("plus", number(9), number(9)), (0, 0, 0), 18)
        self.check(("plus", A, B), (4, 2, 0), 6)

    def test_less_also_below_0(self):
        self.check(("less", A, B), (4, 1, 0), 3)
        self.check(("less", B, A), (4, 1, 0), -3)
        self.check(("less", number(0), number(9)), (0, 0, 0), -9)

    def test_within_one_another(self):
        self.check(("less", number(1), ("less", A, ("plus", B, LAST))), (4, 2, 1), 0)
        self.check(("less", ("less", number(1), A), ("plus", B, LAST)), (4, 2, 1), -6)
        self.check(("plus", ("less", number(0), number(9)), ("less", number(0), A)), (4, 2, 1), -13)

    def test_worth_is_not_cut_to_a_box(self):
        self.check(("plus", B, number(9)), (0, 2, 0), 11)

    def test_boxes_called_like_kinds(self):
        boxes = [("number", 3), ("plus", 4), ("box", 5)]
        self.assertEqual(worth(("less", ("box", "number"), ("box", "box")), boxes, (2, 3, 4)), -2)
        self.assertEqual(worth(("box", "plus"), boxes, (2, 3, 4)), 3)

    def test_against_another_reckoning(self):
        chance = random.Random(6)
        for _ in range(500):
            expression = chance_expression(chance, ["a", "b", "lastone"], chance.randrange(7))
            standing = (chance.randrange(5), chance.randrange(3), chance.randrange(2))
            self.check(expression, standing, reckoned(expression, BOXES, standing))

    def test_six_within_one_another(self):
        self.check(nested("plus", A, 6), (4, 0, 0), 256)
        self.check(nested("plus", ("less", B, A), 5), (4, 0, 0), -128)


class Holds(unittest.TestCase):
    def check(self, condition, standing, expected):
        self.assertIs(holds(condition, BOXES, standing), expected)

    def test_yes(self):
        self.check(YES, (0, 0, 0), True)

    def test_same(self):
        self.check(("same", A, B), (2, 2, 0), True)
        self.check(("same", A, B), (2, 1, 0), False)
        self.check(("same", A, B), (1, 2, 0), False)
        self.check(("same", ("less", A, B), ("less", LAST, number(2))), (1, 2, 1), True)

    def test_under_is_less_and_not_the_same(self):
        self.check(("under", A, B), (1, 2, 0), True)
        self.check(("under", A, B), (2, 2, 0), False)
        self.check(("under", A, B), (3, 2, 0), False)
        self.check(("under", ("less", A, B), number(0)), (0, 1, 0), True)

    def test_not(self):
        self.check(NO, (0, 0, 0), False)
        self.check(("not", NO), (0, 0, 0), True)
        self.check(("not", ("same", A, B)), (2, 1, 0), True)

    def test_both(self):
        self.check(("both", YES, YES), (0, 0, 0), True)
        self.check(("both", YES, NO), (0, 0, 0), False)
        self.check(("both", NO, YES), (0, 0, 0), False)
        self.check(("both", NO, NO), (0, 0, 0), False)

    def test_within_one_another(self):
        between = ("both", ("under", number(0), A), ("not", ("under", number(3), A)))
        for value in range(5):
            self.check(between, (value, 0, 0), 1 <= value <= 3)
            self.check(("not", between), (value, 0, 0), not 1 <= value <= 3)

    def test_against_another_reckoning(self):
        chance = random.Random(7)
        for _ in range(500):
            condition = chance_condition(chance, ["a", "b", "lastone"], chance.randrange(7))
            standing = (chance.randrange(5), chance.randrange(3), chance.randrange(2))
            self.check(condition, standing, reckoned(condition, BOXES, standing))

    def test_six_within_one_another_over_six_within_one_another(self):
        deep = ("same", nested("plus", A, 6), nested("plus", B, 6))
        self.check(nested("both", deep, 6), (2, 2, 0), True)
        self.check(nested("both", deep, 6), (3, 2, 0), False)


class NamesIn(unittest.TestCase):
    def test_expressions(self):
        self.assertEqual(names_in(number(7)), [])
        self.assertEqual(names_in(B), ["b"])
        self.assertEqual(names_in(("plus", B, A)), ["b", "a"])
        self.assertEqual(names_in(("less", B, ("plus", number(1), ("less", B, A)))), ["b", "b", "a"])
        self.assertEqual(names_in(("less", ("plus", A, B), A)), ["a", "b", "a"])

    def test_conditions(self):
        self.assertEqual(names_in(YES), [])
        self.assertEqual(names_in(("same", LAST, A)), ["lastone", "a"])
        self.assertEqual(names_in(("under", ("plus", B, LAST), A)), ["b", "lastone", "a"])
        self.assertEqual(names_in(("not", ("same", B, A))), ["b", "a"])
        self.assertEqual(
            names_in(("both", ("not", ("under", B, A)), ("both", YES, ("same", A, B)))), ["b", "a", "a", "b"])

    def test_names_that_are_no_box_or_like_kinds(self):
        self.assertEqual(names_in(("plus", ("box", "number"), ("box", "box"))), ["number", "box"])
        self.assertEqual(names_in(("same", ("box", "yes"), ("box", "elsewhere"))), ["yes", "elsewhere"])

    def test_six_within_one_another(self):
        self.assertEqual(names_in(nested("both", ("same", nested("plus", A, 6), B), 6)), (["a"] * 64 + ["b"]) * 64)

    def test_a_told_list_is_the_askers_own(self):
        for thing in (number(1), B, ("plus", B, A), YES, ("not", ("same", A, B))):
            told = names_in(thing)
            kept = list(told)
            told.append("x")
            told.reverse()
            self.assertEqual(names_in(thing), kept)
            self.assertIs(type(told), list)


class HandedIn(unittest.TestCase):
    def test_boxes_stay_and_are_not_kept(self):
        boxes = [("a", 5), ("b", 3)]
        self.assertEqual(worth(A, boxes, (4, 2)), 4)
        self.assertTrue(holds(("same", A, number(4)), boxes, (4, 2)))
        self.assertEqual(boxes, [("a", 5), ("b", 3)])
        boxes.reverse()
        self.assertEqual(worth(A, boxes, (1, 3)), 3)
        self.assertFalse(holds(("same", A, number(1)), boxes, (1, 3)))


if __name__ == "__main__":
    unittest.main()
