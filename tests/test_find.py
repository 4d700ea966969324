"""Points 2, 3, 4 and 18 to 21: forkplan.find."""

import copy
import itertools
import math
import random
import unittest

from forkplan.errors import TooMany
from forkplan.find import found_plan, right_numbers, right_trap, worst_value
from forkplan.judge import judged, right_table, worst_price
from forkplan.known import first_known
from forkplan.plans import plan_of, run
from forkplan.worlds import standings, world_of
from samples import (END, YES, OtherReckoning, all_nodes, both, box, chance_worlds, lists_in, lock, maze, number, same,
                     spans, under)

A, B = box("a"), box("b")
MOST = 10 ** 30 - 1


LOCK_NUMBERS = [([(0, 0)], 2), ([(0, 0), (1, 0)], 4), ([(0, 1)], 0), ([(0, 1), (1, 1)], 0), ([(0, 1), (1, 2)], 9),
                ([(1, 0)], 3), ([(1, 1)], 0), ([(1, 2)], 9)]


class Checks(unittest.TestCase):
    def check_plan(self, world, price):
        told = found_plan(world)
        self.assertEqual((type(told), len(told), told[0]), (tuple, 4, "plan"))
        plan = told[1]
        self.assertEqual(plan_of(world, plan), plan)
        kind, table = judged(world, plan)
        self.assertEqual(kind, "sure")
        self.assertIs(right_table(world, plan, table), True)
        self.assertEqual((told[2], worst_price(world, plan)), (price, price))
        self.assertEqual(worst_value(world, first_known(world)), price)
        self.assertIs(right_numbers(world, told[3]), True)
        self.assertEqual([row[1] for row in told[3] if row[0] == first_known(world)], [price])
        return told

    def check_trap(self, world):
        told = found_plan(world)
        self.assertEqual((type(told), len(told), told[0], type(told[1])), (tuple, 2, "trap", list))
        self.assertIs(right_trap(world, told[1]), True)
        self.assertIsNone(worst_value(world, first_known(world)))
        return told


class FoundPlan(Checks):
    def test_at_the_goal(self):
        world = world_of([("a", 2)], [("go", 1, YES, [[]])], [("see", 1, A)], YES, YES)
        self.assertEqual(self.check_plan(world, 0)[1:], ([END], 0, [([(0,), (1,)], 0)]))

    def test_a_row_of_deeds(self):
        world = world_of([("a", 5)], [("up", 2, YES, [[("a", ("plus", A, number(1)))]])], [], same("a", 0), same("a", 3))
        self.assertEqual(self.check_plan(world, 6)[1], [("do", "up", 1), ("do", "up", 2), ("do", "up", 3), END])

    def test_the_cheaper_of_two(self):
        self.check_plan(lock(1, 9), 4)
        self.assertEqual(self.check_plan(lock(1, 3), 3)[1], [("do", "force", 1), END])
        self.check_plan(lock(5, 9), 8)
        self.assertEqual(self.check_plan(lock(7, 9), 9)[1], [("do", "force", 1), END])

    def test_a_look_and_its_forks(self):
        plan = self.check_plan(lock(), 4)[1]
        self.assertEqual([run(lock(), plan, (side, 0), [0]) for side in range(2)],
                         [("goal", [("see", 0), ("left", 0)], (0, 1)), ("goal", [("see", 1), ("right", 0)], (1, 1))])

    def test_deeds_of_several_ways(self):
        deeds = [("roll", 1, YES, [[("a", number(1))], [("a", number(2))]]),
                 ("one", 5, same("a", 1), [[("b", number(1))]]), ("two", 3, same("a", 2), [[("b", number(1))]]),
                 ("any", 8, YES, [[("b", number(1))]])]
        world = world_of([("a", 3), ("b", 2)], deeds, [("see", 1, A)], same("b", 0), same("b", 1))
        self.check_plan(world, 7)
        world = world_of(world[0], deeds, [("see", 2, A)], world[3], world[4])
        self.check_plan(world, 8)

    def test_what_may_go_on_for_ever_is_no_plan(self):
        deeds = [("try", 1, YES, [[("a", number(1))], []])]
        looks = [("see", 1, A)]
        self.check_trap(world_of([("a", 2)], deeds, looks, same("a", 0), same("a", 1)))
        sure = deeds + [("pay", 1000, YES, [[("a", number(1))]])]
        self.check_plan(world_of([("a", 2)], sure, looks, same("a", 0), same("a", 1)), 1000)

    def test_prices_of_thirty_figures(self):
        deeds = [("up", MOST, under("a", 4), [[("a", ("plus", A, number(1)))]]),
                 ("back", MOST - 1, under("a", 1), [[("a", number(4))]])]
        world = world_of([("a", 5)], deeds, [("see", MOST, A)], YES, same("a", 4))
        self.check_plan(world, 4 * MOST)
        alone = world_of([("a", 5)], deeds, [("see", MOST, A)], under("a", 1), same("a", 4))
        self.check_plan(alone, MOST - 1)
        self.assertEqual(worst_value(world, [(0,), (1,)]), 4 * MOST)
        self.assertEqual(worst_value(world, [(3,), (4,)]), 2 * MOST)

    def test_told_kinds(self):
        told = found_plan(lock())
        self.assertEqual([type(one) for one in told], [tuple, str, list, int, list][1:])
        self.assertTrue(all(type(row) is tuple and type(row[0]) is list and type(row[1]) is int for row in told[3]))
        self.assertTrue(all(type(node) is tuple for node in told[1]))


class FoundTrap(Checks):
    def test_nothing_can_be_done(self):
        world = world_of([("a", 2)], [], [], YES, same("a", 1))
        self.assertEqual(self.check_trap(world), ("trap", [[(0,), (1,)]]))

    def test_deeds_that_may_not_be_done(self):
        world = world_of([("a", 2)], [("go", 1, same("a", 1), [[("a", number(0))]])], [], YES, same("a", 0))
        self.check_trap(world)

    def test_looks_that_do_not_help(self):
        self.check_trap(maze())

    def test_one_part_of_a_look_without_a_plan(self):
        deeds = [("go", 1, same("a", 1), [[("a", number(2))]])]
        world = world_of([("a", 3)], deeds, [("see", 1, A)], YES, same("a", 2))
        told = self.check_trap(world)
        self.assertIn([(0,)], told[1])
        self.check_plan(world_of([("a", 3)], deeds, [("see", 1, A)], ("not", same("a", 0)), same("a", 2)), 2)

    def test_a_goal_that_holds_nowhere(self):
        self.check_trap(maze(("not", YES)))


class WorstValue(unittest.TestCase):
    def test_of_any_knowledge(self):
        for known, value in LOCK_NUMBERS:
            self.assertEqual(worst_value(lock(), known), value)
        self.assertEqual(worst_value(lock(), [(0, 0), (0, 1), (1, 1)]), 9)

    def test_0_at_the_goal(self):
        self.assertEqual(worst_value(lock(), [(0, 1), (1, 1)]), 0)
        self.assertEqual(worst_value(maze(), [(1, 1)]), 0)

    def test_none(self):
        self.assertIsNone(worst_value(maze(), [(0, 0), (1, 0)]))
        self.assertIsNone(worst_value(maze(("not", YES)), [(0, 0)]))

    def test_some_knowledge_has_a_plan_where_the_first_has_none(self):
        self.assertEqual(worst_value(maze(), [(0, 0)]), 1)
        self.assertEqual(worst_value(maze(), [(1, 0)]), 2)


class RightNumbers(unittest.TestCase):
    def check(self, expected, numbers, world=None):
        with self.subTest(numbers=numbers):
            self.assertIs(right_numbers(world or lock(), numbers), expected)

    def with_number(self, place, value):
        return LOCK_NUMBERS[:place] + [(LOCK_NUMBERS[place][0], value)] + LOCK_NUMBERS[place + 1:]

    def test_the_least_worst_prices_in_any_order(self):
        self.check(True, LOCK_NUMBERS)
        self.check(True, LOCK_NUMBERS[::-1])

    def test_the_first_knowledge_lacks(self):
        self.check(False, [])
        self.check(False, LOCK_NUMBERS[:1] + LOCK_NUMBERS[2:])

    def test_what_comes_of_a_deed_or_of_a_look_lacks(self):
        for place in range(len(LOCK_NUMBERS)):
            self.check(False, LOCK_NUMBERS[:place] + LOCK_NUMBERS[place + 1:])

    def test_a_number_that_is_too_great(self):
        for place, (known, value) in enumerate(LOCK_NUMBERS):
            self.check(False, self.with_number(place, value + 1))
            self.check(False, self.with_number(place, None))
            self.check(False, self.with_number(place, 10 ** 30))

    def test_a_lesser_number_may_make_another_one_too_great(self):
        self.check(True, self.with_number(1, 3))
        self.check(True, self.with_number(1, -10 ** 30))
        # The look's worst part counts: a lesser number of the other one does nothing.
        self.check(True, self.with_number(0, 1))
        self.check(False, self.with_number(5, 2))

    def test_at_the_goal(self):
        world = world_of([("a", 2)], [("go", 1, YES, [[]])], [("see", 1, A)], YES, YES)
        first = [(0,), (1,)]
        for value, expected in ((0, True), (-1, True), (-10 ** 30, True), (1, False), (None, False)):
            self.check(expected, [(first, value)], world)
        # Nothing need be there of what comes of it, but what is there is looked at.
        self.check(True, [(first, 0), ([(0,)], -3)], world)
        self.check(False, [(first, 0), ([(0,)], 1)], world)

    def test_a_knowledge_twice(self):
        for row in LOCK_NUMBERS:
            self.check(False, LOCK_NUMBERS + [row])
            self.check(False, [(row[0], -1)] + LOCK_NUMBERS)

    def test_none_where_no_plan_works(self):
        world = world_of([("a", 3)], [("go", 1, same("a", 1), [[("a", number(2))]])], [("see", 1, A)], YES, same("a", 2))
        every = [(0,), (1,), (2,)]
        rows = [(every, None), ([(0,)], None), ([(1,)], 1), ([(2,)], 0)]
        self.check(True, rows, world)
        self.check(True, [(every, 50)] + rows[1:], world)
        self.check(True, [(every, 51), ([(0,)], 50)] + rows[2:], world)
        self.check(False, [(every, 52), ([(0,)], 50)] + rows[2:], world)
        self.check(False, [(every, None), ([(0,)], 50)] + rows[2:], world)
        self.check(False, rows[:2] + [([(1,)], None), ([(2,)], 0)], world)
        self.check(False, rows[:3] + [([(2,)], None)], world)
        self.check(False, [(every, None)] + rows[2:], world)

    def test_none_ahead_of_a_deed(self):
        world = world_of([("a", 2)], [("go", 1, YES, [[("a", number(0))]])], [], same("a", 1), ("not", YES))
        self.check(True, [([(1,)], None), ([(0,)], None)], world)
        self.check(True, [([(1,)], 4), ([(0,)], None)], world)
        self.check(True, [([(1,)], 4), ([(0,)], 3)], world)
        self.check(False, [([(1,)], None), ([(0,)], 3)], world)
        self.check(False, [([(1,)], None)], world)

    def test_deeds_that_may_not_be_done_do_not_count(self):
        world = world_of([("a", 2)], [("go", 1, same("a", 1), [[]])], [], YES, same("a", 0))
        self.check(True, [([(0,), (1,)], None)], world)
        self.check(True, [([(0,), (1,)], 7)], world)

    def test_looks_with_one_part_do_not_count(self):
        world = world_of([("a", 2)], [], [("dull", 1, number(3))], YES, same("a", 0))
        self.check(True, [([(0,), (1,)], None)], world)

    def test_further_knowledges(self):
        self.check(True, LOCK_NUMBERS + [([(0, 2)], 9)])
        self.check(False, LOCK_NUMBERS + [([(0, 2)], 10)])
        self.check(False, LOCK_NUMBERS + [([(0, 2), (1, 0)], 1)])

    def test_rows_that_are_no_knowledge(self):
        for known in ([], [(1, 1), (0, 1)], [(0, 1), (0, 1)], [(0, 3)], [(0, 1), (9, 9)], [(1,)]):
            self.check(False, LOCK_NUMBERS + [(known, 0)])

    def test_numbers_that_are_none(self):
        self.check(False, self.with_number(2, False))


class RightTrap(unittest.TestCase):
    def check(self, expected, trap, world=None):
        with self.subTest(trap=trap):
            self.assertIs(right_trap(world or maze(), trap), expected)

    def test_told_ones(self):
        self.check(True, found_plan(maze())[1])
        self.check(True, found_plan(maze())[1][::-1])

    def test_one_that_is_lesser_than_the_first_knowledge(self):
        world = world_of([("a", 3)], [("go", 1, YES, [[("a", A)]])], [("see", 1, A)], YES, same("a", 2))
        for trap in ([[(0,)]], [[(1,)]], [[(0,)], [(1,)]], [[(1,)], [(0,)], [(1,)]]):
            self.check(True, trap, world)

    def test_the_first_knowledge_has_all_of_none(self):
        world = world_of([("a", 3)], [], [], under("a", 2), same("a", 2))
        self.check(True, [[(0,)]], world)
        self.check(True, [[(0,), (1,)]], world)
        self.check(False, [[(0,), (1,), (2,)]], world)
        self.check(False, [[(1,), (2,)]], world)
        self.check(False, [], world)
        self.check(True, [[(1,), (2,)], [(1,)]], world)

    def test_one_is_at_the_goal(self):
        world = world_of([("a", 3)], [], [], YES, under("a", 2))
        self.check(True, [[(2,)]], world)
        self.check(True, [[(1,), (2,)]], world)
        for wrong in ([(0,)], [(1,)], [(0,), (1,)]):
            self.check(False, [[(2,)], wrong], world)
            self.check(False, [wrong, [(2,)]], world)
            self.check(False, [wrong], world)

    def test_a_deed_leads_out(self):
        deeds = [("go", 1, same("a", 0), [[("a", number(1))]]), ("back", 1, same("a", 1), [[("a", number(0))]])]
        world = world_of([("a", 4)], deeds, [], same("a", 0), same("a", 3))
        self.check(True, [[(0,)], [(1,)]], world)
        self.check(False, [[(0,)]], world)
        self.check(False, [[(0,)], [(2,)]], world)
        self.check(False, [[(0,)], [(1,), (2,)]], world)

    def test_what_comes_of_a_deed_may_have_more(self):
        deeds = [("go", 1, YES, [[("a", number(1))], [("a", number(2))]])]
        world = world_of([("a", 4)], deeds, [], same("a", 0), same("a", 3))
        self.check(True, [[(0,)], [(1,)]], world)
        self.check(True, [[(0,)], [(2,)]], world)
        self.check(True, [[(0,)], [(1,), (2,)]], world)
        self.check(False, [[(0,)], [(1,), (2,), (3,)]], world)
        self.check(False, [[(0,)], [(3,)]], world)

    def test_a_deed_that_may_not_be_done_does_not_count(self):
        deeds = [("go", 1, same("a", 0), [[("a", number(3))]])]
        world = world_of([("a", 4)], deeds, [], under("a", 2), same("a", 3))
        self.check(True, [[(0,), (1,)]], world)
        self.check(True, [[(1,)]], world)
        self.check(False, [[(0,)]], world)

    def test_a_look_leads_out(self):
        world = world_of([("a", 4)], [("go", 1, ("not", same("a", 3)), [[("a", number(2))]])], [("see", 1, A)],
                         ("not", same("a", 2)), same("a", 2))
        self.check(True, [[(0,), (1,), (3,)], [(3,)]], world)
        self.check(True, [[(3,)]], world)
        # No part of it by the look has all of one of them, whatever may be done without it.
        self.check(False, [[(0,), (1,), (3,)]], world)
        self.check(False, [[(0,), (3,)]], world)

    def test_some_part_is_enough(self):
        world = world_of([("a", 2), ("b", 2)], [], [("see", 1, A)], YES, both(same("a", 1), same("b", 1)))
        self.check(True, [[(0, 0), (0, 1)]], world)
        self.check(True, [[(0, 1), (1, 0)], [(1, 0)]], world)
        self.check(False, [[(0, 1), (1, 0)]], world)

    def test_a_look_with_one_part_leads_nowhere(self):
        self.check(True, [[(0,), (1,)]], world_of([("a", 2)], [], [("dull", 1, number(3))], YES, same("a", 0)))

    def test_worlds_with_a_plan_have_none(self):
        world = lock()
        every = standings(world)
        knowns = [list(known) for many in (1, 2) for known in itertools.combinations(every, many)]
        self.check(False, knowns, world)
        for one, other in itertools.product(knowns, repeat=2):
            self.check(False, [one, other], world)

    def test_rows_that_are_no_knowledge(self):
        world = world_of([("a", 3)], [], [], YES, same("a", 2))
        for known in ([], [(1,), (0,)], [(0,), (0,)], [(3,)], [(0,), (7,)], [(0, 0)]):
            self.check(False, [[(0,)], known], world)


class Many(unittest.TestCase):
    def test_two_thousand_are_not_too_many(self):
        kind, plan, price, numbers = found_plan(spans(False))
        self.assertEqual((kind, price, len(numbers), worst_price(spans(False), plan)), ("plan", 9, 2000, 9))
        self.assertIs(right_numbers(spans(False), numbers), True)
        self.assertEqual(worst_value(spans(False), [(0, 0, 0, 0)]), 9)

    def test_one_more_is(self):
        world = spans(True)
        for ask in (lambda: found_plan(world), lambda: worst_value(world, first_known(world))):
            with self.assertRaises(TooMany) as caught:
                ask()
            self.assertIs(type(caught.exception), TooMany)
        self.assertEqual(world, spans(True))

    def test_it_goes_by_the_knowledge_that_is_asked_of(self):
        self.assertEqual(worst_value(spans(True), [(0, 0, 1, 0)]), 8)
        self.assertIsNone(worst_value(spans(True), [(0, 0, 0, 1)]))
        self.assertEqual(worst_value(spans(True), [(3, 3, 3, 0)]), 0)
        with self.assertRaises(TooMany):
            worst_value(spans(True), [(0, 0, 0, 0)])

    def parted(self, sizes):
        """Boxes that are each seen or forgotten by themselves: of a size n come n + 1 for each one."""
        boxes = list(zip("abcdef", sizes))
        deeds = [("mix" + name, 1, YES, [[(name, number(n))] for n in range(size)]) for name, size in boxes]
        return world_of(boxes, deeds, [("see" + name, 1, box(name)) for name, _ in boxes], YES, ("not", YES))

    def test_looks_count_too(self):
        self.assertEqual(len(found_plan(self.parted((4, 3, 2, 2, 2, 2)))[1]), 5 * 4 * 3 ** 4)
        without = self.parted((4, 3, 2, 2, 2, 4))
        with self.assertRaises(TooMany):
            found_plan(without)
        self.assertEqual(found_plan(world_of(without[0], without[1], [], YES, ("not", YES)))[0], "trap")

    def test_nothing_comes_of_knowledge_at_the_goal(self):
        world = spans(True)
        at_once = world_of(world[0], world[1], world[2], world[3], YES)
        self.assertEqual(found_plan(at_once), ("plan", [END], 0, [([(0, 0, 0, 0)], 0)]))
        half = world_of(world[0], world[1], world[2], world[3], same("d", 1))
        self.assertEqual(len(found_plan(half)[3]), 2000)

    def test_walkers_do_not_mind(self):
        self.assertIs(right_numbers(spans(True), [([(0, 0, 0, 0)], 0)]), False)
        self.assertIs(right_trap(spans(True), [[(0, 0, 0, 0)]]), False)


class Families(unittest.TestCase):
    """Three thousand rows."""

    def test_numbers(self):
        numbers = found_plan(spans(False))[3]
        world = spans(False)
        # Where d is 1 any span may be had by itself; knowledges of several such, all moves of which are blocked.
        blocked = [(a, b, c, 1) for a, b, c in itertools.product((0, 3), repeat=3)]
        more = [known for many in range(1, 5) for known in itertools.combinations(blocked, many)
                if all(len({at[place] for at in known}) == 2 for place in range(3))]
        rows = numbers + [(list(known), None) for known in more if (list(known), None) not in numbers]
        self.assertIs(right_numbers(world, rows), True)
        goal = both(*[same(name, 3) for name in "abc"])
        easy = world_of(world[0], world[1], world[2], world[3], ("not", ("both", ("not", goal), same("a", 0))))
        every = [at for at in standings(easy) if at[0] > 0][:14]
        rows = found_plan(easy)[3]
        seen = [known for known, _ in rows]
        rows += [(list(known), 0) for many in range(1, 8) for known in itertools.combinations(every, many)
                 if list(known) not in seen]
        rows = rows[:3000]
        self.assertEqual(len(rows), 3000)
        self.assertIs(right_numbers(easy, rows), True)
        self.assertIs(right_numbers(easy, rows[:-1] + [(rows[-1][0], 1)]), False)
        self.assertIs(right_numbers(easy, rows[:-1] + rows[:1]), False)

    def trap_world(self):
        """Two hundred standings; what is done leaves e as it is, and only where e is 1 is the goal."""
        boxes = [("a", 5), ("b", 5), ("c", 2), ("d", 2), ("e", 2)]
        deeds = [("turn", 1, YES, [[("a", ("plus", A, number(1)))]]), ("roll", 1, YES, [[("b", B)], [("b", A)]]),
                 ("swap", 1, YES, [[("c", box("d")), ("d", box("c"))]]), ("wait", 1, YES, [[]])]
        return world_of(boxes, deeds, [("see", 1, ("plus", A, box("e"))), ("peep", 1, ("less", B, A))], YES, same("e", 1))

    def test_traps(self):
        world = self.trap_world()
        shut = [at for at in standings(world) if at[4] == 0]
        ones = [[at] for at in shut]
        rows = ones + [list(known) for many in (2, 3) for known in itertools.combinations(shut, many)][:3000 - len(ones)]
        self.assertEqual(len(rows), 3000)
        self.assertIs(right_trap(world, rows), True)
        self.assertIs(right_trap(world, rows[::-1]), True)
        self.assertIs(right_trap(world, [shut] * 3000), False)
        self.assertIs(right_trap(world, rows[len(ones):]), False)
        self.assertIs(right_trap(world, rows[:-1] + [[(0, 0, 0, 0, 1)]]), False)

    def test_traps_none_of_which_has_all_of_another(self):
        boxes = [("a", 5), ("b", 5), ("c", 4), ("d", 2)]
        deeds = [("turn", 1, YES, [[("a", ("plus", A, number(1)))]]), ("move", 1, YES, [[("b", ("plus", B, number(1)))]])]
        world = world_of(boxes, deeds, [("dull", 1, box("d"))], same("d", 0), same("c", 9))
        fives = [at for at in standings(world) if at[2:] == (0, 0)]
        rows = [list(known) for known in itertools.combinations(fives, 3)]
        self.assertEqual(len(rows), 2300)
        self.assertIs(right_trap(world, rows), True)
        self.assertIs(right_trap(world, rows[1:]), False)
        others = [at for at in standings(world) if at[2:] == (1, 0)]
        rows += [list(known) for known in itertools.combinations(others, 23)]
        self.assertIs(right_trap(world, rows + rows[:400]), True)

    def test_two_hundred_standings_known_at_once(self):
        world = self.trap_world()
        self.assertEqual(len(first_known(world)), 200)
        told = found_plan(world)
        self.assertEqual(told[0], "trap")
        self.assertIs(right_trap(world, told[1]), True)


class Owned(unittest.TestCase):
    WORLDS = (lock, maze, lambda: maze(("not", YES)), lambda: world_of([("a", 2)], [], [], YES, YES))

    def test_all_lists_are_new_and_none_is_told_twice(self):
        for made in self.WORLDS:
            world = made()
            lists = lists_in(found_plan(world)) + lists_in(found_plan(world)) + lists_in(world)
            self.assertEqual(len({id(one) for one in lists}), len(lists))

    def test_what_was_told_may_be_changed_behind(self):
        for made in self.WORLDS:
            world = made()
            told = found_plan(world)
            before = copy.deepcopy(told)
            for one in lists_in(told):
                one.append("x")
            self.assertEqual(found_plan(world), before)
            self.assertEqual(world, made())

    def test_what_was_handed_in_stays(self):
        world = lock()
        numbers, trap, known = copy.deepcopy(LOCK_NUMBERS), [[(0, 0)], [(0, 0), (1, 0)]], [(0, 0), (1, 0)]
        right_numbers(world, numbers)
        right_trap(world, trap)
        worst_value(world, known)
        self.assertEqual((world, numbers, trap, known),
                         (lock(), LOCK_NUMBERS, [[(0, 0)], [(0, 0), (1, 0)]], [(0, 0), (1, 0)]))


class EveryPlan(unittest.TestCase):
    """Point 4: no small plan does better than what is told, and where a trap is told none surely works."""

    def sure_prices(self, other, plans):
        sums = [other.sure_sums(list(plan), other.cost_of_node) for plan in plans]
        return [max(sure[(0, at)] for at in other.first) for pairs, sure in sums if len(pairs) == len(sure)]

    def test_a_plan_with_a_look(self):
        other = OtherReckoning(lock())
        plans = [plan + (END,) for plan in itertools.product(all_nodes(other, 4), repeat=3)]
        self.assertEqual(min(self.sure_prices(other, plans)), found_plan(lock())[2])

    def test_small_worlds(self):
        kinds = {"plan": 0, "trap": 0, "met": 0}
        for world, other in chance_worlds(4, 400):
            nodes = all_nodes(other, 3)
            told = found_plan(world)
            if len(nodes) > 13 or not other.need or set(other.first) <= other.goal:
                continue
            kinds[told[0]] += 1
            prices = self.sure_prices(other, itertools.product(nodes, repeat=3))
            if told[0] == "trap":
                self.assertEqual(prices, [])
            elif prices:
                self.assertLessEqual(told[2], min(prices))
                if len(told[1]) <= 3:
                    self.assertEqual(told[2], min(prices))
                    kinds["met"] += 1
        self.assertGreater(min(kinds.values()), 5, kinds)


class AnotherReckoning(Checks):
    def test_values_plans_and_traps(self):
        kinds = {"plan": 0, "trap": 0, "looking": 0}
        for world, other in chance_worlds(21, 300):
            values = other.worst_values(other.first)
            value = values[frozenset(other.first)]
            if value == math.inf:
                self.check_trap(world)
                kinds["trap"] += 1
            else:
                told = self.check_plan(world, value)
                kinds["plan"] += 1
                kinds["looking"] += any(node[0] == "look" for node in told[1])
                self.assertTrue(self.are_right(other, told[3]))
            for known in list(values)[:6]:
                expected = None if values[known] == math.inf else values[known]
                self.assertEqual(worst_value(world, sorted(known)), expected)
        self.assertGreater(min(kinds.values()), 15, kinds)

    def are_right(self, other, numbers):
        """Point 19 in other words, None being without end."""
        by_known = {frozenset(known): math.inf if value is None else value for known, value in numbers}
        if len(by_known) < len(numbers) or frozenset(other.first) not in by_known:
            return False
        for known, value in by_known.items():
            if known <= other.goal:
                if value > 0:
                    return False
                continue
            for price, coming in other.steps(known):
                if any(one not in by_known for one in coming):
                    return False
                if value > price + max(by_known[one] for one in coming):
                    return False
        return True

    def is_trap(self, other, trap):
        """Point 20 in other words."""
        sets = [frozenset(known) for known in trap]

        def has_all_of_one(known):
            return any(one <= known for one in sets)

        return has_all_of_one(frozenset(other.first)) and all(
            not known <= other.goal
            and all(has_all_of_one(other.behind(known, name)) for name in other.need if known <= other.need[name])
            and all(any(map(has_all_of_one, other.parts(known, name).values())) for name in other.shows)
            for known in sets)

    def chance_known(self, chance, other):
        return sorted(chance.sample(other.every, chance.randrange(1, min(4, len(other.every)) + 1)))

    def test_numbers_that_are_right_and_wrong(self):
        chance = random.Random(19)
        kinds = {True: 0, False: 0}
        for world, other in chance_worlds(19, 150):
            values = other.worst_values(other.first)
            whole = [(sorted(known), None if value == math.inf else value) for known, value in values.items()]
            self.assertIs(right_numbers(world, whole), True)
            for _ in range(8):
                numbers = list(whole)
                for _ in range(chance.randrange(1, 3)):
                    place = chance.randrange(len(numbers))
                    known, value = numbers[place]
                    new = chance.choice([None, 0 if value is None else value + chance.randrange(-3, 3)])
                    numbers[place:place + 1] = chance.choice([
                        [], [(known, new)], [(known, new)], [(known, new)], [(known, value)] * 2,
                        [(known, value), (self.chance_known(chance, other), new)]])
                    numbers = numbers or list(whole)
                expected = self.are_right(other, numbers)
                self.assertIs(right_numbers(world, numbers), expected)
                kinds[expected] += 1
        self.assertGreater(min(kinds.values()), 100, kinds)

    def test_traps_that_are_right_and_wrong(self):
        chance = random.Random(20)
        kinds = {True: 0, False: 0}
        for world, other in chance_worlds(20, 200):
            values = other.worst_values(other.first)
            whole = [sorted(known) for known, value in values.items() if value == math.inf]
            for _ in range(8):
                trap = [sorted(chance.sample(known, chance.randrange(1, len(known) + 1))) if chance.random() < 0.2
                        else known for known in whole if chance.random() < 0.9]
                if chance.random() < 0.5:
                    trap.append(self.chance_known(chance, other))
                expected = self.is_trap(other, trap)
                self.assertIs(right_trap(world, trap), expected)
                kinds[expected] += 1
                if expected:
                    self.assertEqual(found_plan(world)[0], "trap")
        self.assertGreater(min(kinds.values()), 100, kinds)


if __name__ == "__main__":
    unittest.main()
