"""Points 2, 3 and 25: forkplan.values."""

import copy
import math
import unittest

from forkplan.errors import NoName, TooMany
from forkplan.find import found_plan
from forkplan.values import what_it_is_worth
from forkplan.worlds import world_of
from samples import YES, OtherReckoning, box, chance_worlds, lock, maze, number, same, spans, under

A = box("a")
MOST = 10 ** 30 - 1


def without(world, name):
    """The five of the world without a deed or a look."""
    return tuple([thing for thing in part if place not in (1, 2) or thing[0] != name] if isinstance(part, list) else part
                 for place, part in enumerate(world))


class Worth(unittest.TestCase):
    def check(self, expected, world, name):
        before = copy.deepcopy(world)
        told = what_it_is_worth(world, name)
        self.assertEqual((told, type(told)), (expected, tuple))
        self.assertEqual(world, before)

    def test_of_a_look(self):
        self.check((4, 9), lock(), "see")
        self.check((8, 9), lock(5), "see")
        self.check((9, 9), lock(7), "see")
        self.check((3, 3), lock(1, 3), "see")

    def test_of_a_deed(self):
        self.check((4, 4), lock(), "force")
        self.check((3, 4), lock(1, 3), "force")
        # Without left the one whose a is 0 forces the door.
        self.check((4, 9), lock(), "left")
        self.check((4, 4), lock(1, 4), "right")
        self.check((4, 9), lock(), "right")

    def test_none_without_it(self):
        world = lock()
        locked = world_of(world[0], world[1][:2], *world[2:])
        self.check((4, None), locked, "see")
        self.check((4, None), locked, "left")
        self.check((4, None), locked, "right")

    def test_none_with_it_and_without_it(self):
        for name in ("try", "flip", "dull", "door"):
            self.check((None, None), maze(), name)

    def test_at_the_goal(self):
        world = world_of([("a", 2)], [("go", 1, YES, [[]])], [("see", 1, A)], YES, YES)
        self.check((0, 0), world, "go")
        self.check((0, 0), world, "see")

    def test_the_only_deed(self):
        world = world_of([("a", 2)], [("go", 3, YES, [[("a", number(1))]])], [], YES, same("a", 1))
        self.check((3, None), world, "go")

    def test_prices_of_thirty_figures(self):
        deeds = [("up", MOST, under("a", 4), [[("a", ("plus", A, number(1)))]]), ("top", MOST, YES, [[("a", number(4))]])]
        world = world_of([("a", 5)], deeds, [("see", MOST, A)], same("a", 0), same("a", 4))
        self.check((MOST, 4 * MOST), world, "top")
        self.check((MOST, MOST), world, "see")

    def test_a_name_that_a_box_shares(self):
        world = world_of([("a", 2), ("see", 2)], [("a", 3, YES, [[("a", number(1))]])], [("see", 1, A)], YES, same("a", 1))
        self.check((3, None), world, "a")
        self.check((3, 3), world, "see")

    def test_a_name_that_begins_alike(self):
        deeds = [("go", 1, YES, [[("a", number(1))]]), ("gob", 2, YES, [[("a", number(1))]])]
        world = world_of([("a", 2)], deeds, [("g", 1, A)], YES, same("a", 1))
        self.check((1, 2), world, "go")
        self.check((1, 1), world, "gob")
        self.check((1, 1), world, "g")


class Refused(unittest.TestCase):
    def check(self, refusal, world, name):
        before = copy.deepcopy(world)
        with self.subTest(name=name), self.assertRaises(refusal) as caught:
            what_it_is_worth(world, name)
        self.assertIs(type(caught.exception), refusal)
        self.assertEqual(world, before)

    def test_neither_a_deeds_name_nor_a_looks(self):
        for name in ("walk", "a", "b", "", "se", "sees", "See", "yes", "goal"):
            self.check(NoName, lock(), name)
            self.check(NoName, maze(), name)
        self.check(NoName, world_of([("a", 2)], [], [], YES, YES), "a")

    def test_too_many(self):
        # Also where without it there would not be more than two thousand.
        self.assertEqual(found_plan(spans(False))[2], 9)
        for name in ("leap", "upa", "set"):
            self.check(TooMany, spans(True), name)

    def test_two_thousand_are_not_too_many(self):
        self.assertEqual(what_it_is_worth(spans(False), "upa"), (9, None))
        self.assertEqual(what_it_is_worth(spans(False), "maya"), (9, 9))

    def test_no_name_goes_ahead(self):
        self.check(NoName, spans(True), "a")
        self.check(NoName, spans(True), "walk")


class AnotherReckoning(unittest.TestCase):
    def value(self, world):
        other = OtherReckoning(world)
        value = other.worst_values(other.first)[frozenset(other.first)]
        return None if value == math.inf else value

    def test_chance_worlds(self):
        kinds = {"alike": 0, "more": 0, "none without": 0, "none": 0}
        for world, other in chance_worlds(25, 500):
            for name in other.price:
                expected = (self.value(world), self.value(without(world, name)))
                self.assertEqual(what_it_is_worth(world, name), expected)
                if expected[1] is None:
                    kinds["none" if expected[0] is None else "none without"] += 1
                else:
                    self.assertGreaterEqual(expected[1], expected[0])
                    kinds["alike" if expected[0] == expected[1] else "more"] += 1
        self.assertGreater(min(kinds.values()), 10, kinds)

    def test_the_same_as_of_the_world_made_without_it(self):
        for world, other in chance_worlds(26, 60):
            for name in other.price:
                rest = found_plan(world_of(*without(world, name)))
                self.assertEqual(what_it_is_worth(world, name)[1], rest[2] if rest[0] == "plan" else None)


if __name__ == "__main__":
    unittest.main()
