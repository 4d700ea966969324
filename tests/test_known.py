"""Points 2, 3, 10 and 11: forkplan.known."""

import copy
import unittest

from forkplan.errors import NoName
from forkplan.known import at_goal, behind, first_known, may_do, parts
from forkplan.worlds import world_of
from samples import YES, both, box, chance_worlds, number, same, under

A, B = box("a"), box("b")


def sample_world(begin=YES, goal=YES):
    deeds = [
        ("step", 1, under("a", 2), [[("a", ("plus", A, number(1)))]]),
        ("slip", 2, YES, [[("a", ("plus", A, number(1)))], [], [("b", number(0))], [("b", number(0))]]),
        ("never", 1, ("not", YES), [[]]),
    ]
    looks = [("less", 1, ("less", A, B)), ("far", 1, ("plus", A, number(9))), ("same", 1, number(4))]
    return world_of([("a", 3), ("b", 2)], deeds, looks, begin, goal)


class FirstKnown(unittest.TestCase):
    def test_all_standings_at_which_begin_holds_sorted(self):
        self.assertEqual(first_known(sample_world(same("b", 1))), [(0, 1), (1, 1), (2, 1)])
        self.assertEqual(first_known(sample_world(("not", ("same", A, B)))), [(0, 1), (1, 0), (2, 0), (2, 1)])

    def test_one_standing_alone_and_all(self):
        self.assertEqual(first_known(sample_world(both(same("a", 2), same("b", 0)))), [(2, 0)])
        self.assertEqual(first_known(sample_world()), [(0, 0), (0, 1), (1, 0), (1, 1), (2, 0), (2, 1)])

    def test_whatever_the_goal_is(self):
        self.assertEqual(first_known(sample_world(same("a", 0), same("a", 0))), [(0, 0), (0, 1)])


class AtGoal(unittest.TestCase):
    def test_all_at_the_goal(self):
        world = sample_world(goal=same("b", 1))
        self.assertIs(at_goal(world, [(0, 1), (1, 1), (2, 1)]), True)
        self.assertIs(at_goal(world, [(1, 1)]), True)

    def test_one_is_not_whichever_it_is(self):
        world = sample_world(goal=same("b", 1))
        for known in ([(0, 0), (1, 1), (2, 1)], [(0, 1), (1, 0), (2, 1)], [(0, 1), (1, 1), (2, 0)]):
            self.assertIs(at_goal(world, known), False)
        self.assertIs(at_goal(world, [(1, 0)]), False)

    def test_begin_has_no_part_in_it(self):
        self.assertIs(at_goal(sample_world(same("a", 0), same("a", 1)), [(1, 0)]), True)
        self.assertIs(at_goal(sample_world(same("a", 0), same("a", 1)), [(0, 0)]), False)


class MayDo(unittest.TestCase):
    def test_the_need_holds_at_each(self):
        self.assertIs(may_do(sample_world(), [(0, 0), (0, 1), (1, 0)], "step"), True)
        self.assertIs(may_do(sample_world(), [(2, 0), (2, 1)], "slip"), True)

    def test_at_one_it_does_not(self):
        self.assertIs(may_do(sample_world(), [(0, 0), (1, 0), (2, 0)], "step"), False)
        self.assertIs(may_do(sample_world(), [(2, 0)], "step"), False)
        self.assertIs(may_do(sample_world(), [(0, 0)], "never"), False)


class Behind(unittest.TestCase):
    def test_of_one_way(self):
        self.assertEqual(behind(sample_world(), [(0, 1), (1, 0)], "step"), [(1, 1), (2, 0)])

    def test_several_standings_may_come_together(self):
        world = world_of([("a", 3)], [("drop", 1, YES, [[("a", number(1))]])], [], YES, YES)
        self.assertEqual(behind(world, [(0,), (1,), (2,)], "drop"), [(1,)])

    def test_of_several_ways_sorted_each_once(self):
        self.assertEqual(behind(sample_world(), [(0, 1)], "slip"), [(0, 0), (0, 1), (1, 1)])
        self.assertEqual(behind(sample_world(), [(2, 1)], "slip"), [(0, 1), (2, 0), (2, 1)])
        self.assertEqual(behind(sample_world(), [(0, 1), (1, 0), (2, 1)], "slip"),
                         [(0, 0), (0, 1), (1, 0), (1, 1), (2, 0), (2, 1)])

    def test_knowledge_that_is_no_first_one(self):
        self.assertEqual(behind(sample_world(same("a", 0)), [(1, 0)], "step"), [(2, 0)])


class Parts(unittest.TestCase):
    def test_sorted_by_what_is_shown_also_below_0(self):
        every = [(0, 0), (0, 1), (1, 0), (1, 1), (2, 0), (2, 1)]
        self.assertEqual(parts(sample_world(), every, "less"),
                         [(-1, [(0, 1)]), (0, [(0, 0), (1, 1)]), (1, [(1, 0), (2, 1)]), (2, [(2, 0)])])

    def test_sorted_as_numbers(self):
        self.assertEqual(parts(sample_world(), [(0, 0), (1, 1), (2, 0)], "far"),
                         [(9, [(0, 0)]), (10, [(1, 1)]), (11, [(2, 0)])])

    def test_only_what_is_shown_at_some(self):
        self.assertEqual(parts(sample_world(), [(1, 0), (2, 1)], "less"), [(1, [(1, 0), (2, 1)])])
        self.assertEqual(parts(sample_world(), [(0, 1)], "less"), [(-1, [(0, 1)])])
        self.assertEqual(parts(sample_world(), [(0, 0), (2, 1)], "same"), [(4, [(0, 0), (2, 1)])])

    def test_lists_and_tuples(self):
        told = parts(sample_world(), [(0, 0), (0, 1)], "less")
        self.assertEqual([type(told)] + [type(part) for part in told] + [type(part[1]) for part in told],
                         [list, tuple, tuple, list, list])


class Refused(unittest.TestCase):
    def check(self, ask, names):
        for name in names:
            for known in ([(0, 0)], [(0, 1), (2, 0)]):
                with self.subTest(name=name), self.assertRaises(NoName) as caught:
                    ask(sample_world(), known, name)
                self.assertIs(type(caught.exception), NoName)

    def test_no_deeds_name(self):
        for ask in (may_do, behind):
            self.check(ask, ["nothing", "less", "same", "a", "b", "steps", "ste", ""])

    def test_no_looks_name(self):
        self.check(parts, ["nothing", "step", "slip", "never", "a", "b", "fars", ""])

    def test_where_the_world_has_none(self):
        world = world_of([("a", 2)], [], [], YES, YES)
        for ask in (may_do, behind, parts):
            with self.assertRaises(NoName):
                ask(world, [(0,)], "step")


class Owned(unittest.TestCase):
    def asked(self, world, known):
        return [lambda: first_known(world), lambda: at_goal(world, known), lambda: may_do(world, known, "step"),
                lambda: behind(world, known, "slip"), lambda: parts(world, known, "less"),
                lambda: parts(world, known, "same")]

    def test_what_was_handed_in_stays(self):
        world, known = sample_world(), [(0, 0), (0, 1), (1, 1)]
        kept = copy.deepcopy((world, known))
        for ask in self.asked(world, known):
            ask()
        for name in ("nothing", "less", "step"):
            for ask in (may_do, behind, parts):
                try:
                    ask(world, known, name)
                except NoName:
                    pass
        self.assertEqual((world, known), kept)

    def test_what_was_told_may_be_changed_behind(self):
        world, known = sample_world(), [(0, 0), (0, 1), (1, 1)]
        kept = copy.deepcopy((world, known))
        for ask in self.asked(world, known):
            told = ask()
            before = copy.deepcopy(told)
            if isinstance(told, list):
                for one in told:
                    if isinstance(one[1], list):
                        one[1].append("x")
                told.reverse()
                told.append("x")
            self.assertEqual(ask(), before)
        self.assertEqual((world, known), kept)

    def test_all_lists_are_new(self):
        known = [(0, 0), (2, 1)]
        told = parts(sample_world(), known, "same")
        self.assertIsNot(told[0][1], known)
        known.append("x")
        self.assertEqual(told, [(4, [(0, 0), (2, 1)])])
        world = world_of([("a", 2)], [("wait", 1, YES, [[]])], [], YES, YES)
        known = [(0,), (1,)]
        self.assertIsNot(behind(world, known, "wait"), known)


class AnotherReckoning(unittest.TestCase):
    def test_chance_worlds(self):
        for world, other in chance_worlds(10, 80):
            self.assertEqual(first_known(world), other.first)
            for known in other.all_knowledges(other.first)[:20]:
                listed = sorted(known)
                self.assertIs(at_goal(world, listed), known <= other.goal)
                for name in other.need:
                    self.assertIs(may_do(world, listed, name), known <= other.need[name])
                    self.assertEqual(behind(world, listed, name), sorted(other.behind(known, name)))
                for name in other.shows:
                    expected = [(worth, sorted(part)) for worth, part in sorted(other.parts(known, name).items())]
                    self.assertEqual(parts(world, listed, name), expected)


if __name__ == "__main__":
    unittest.main()
