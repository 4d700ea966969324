"""Points 2, 3, 12 and 13: forkplan.plans."""

import copy
import random
import unittest

from forkplan.errors import NoName, NoPlan
from forkplan.plans import plan_of, run
from forkplan.worlds import world_of
from samples import YES, box, chance_plan, chance_worlds, number, same, under

A, B = box("a"), box("b")
END = ("end",)


def sample_world():
    """a counts up to 4, b is a hidden switch."""
    deeds = [
        ("up", 1, under("a", 4), [[("a", ("plus", A, number(1)))]]),
        ("roll", 2, YES, [[("a", number(0))], [("a", number(1))], [("b", ("less", number(1), B))]]),
        ("shut", 1, same("b", 1), [[("b", number(0))], []]),
    ]
    looks = [("see", 1, A), ("peep", 1, ("less", number(0), B))]
    return world_of([("a", 5), ("b", 2)], deeds, looks, YES, same("a", 2))


class PlanOf(unittest.TestCase):
    def test_each_kind_of_node(self):
        nodes = [("look", "see", ((0, 1), (2, 3), (-7, 0))), ("do", "up", 2), ("look", "peep", ()), END]
        told = plan_of(sample_world(), nodes)
        self.assertEqual(told, nodes)
        self.assertIs(type(told), list)

    def test_the_least_plans(self):
        for nodes in ([END], [("do", "up", 0)], [("look", "see", ())], [("look", "see", ((0, 0),))]):
            self.assertEqual(plan_of(sample_world(), nodes), nodes)

    def test_nodes_to_which_nothing_leads_and_forks_that_never_come(self):
        nodes = [END, ("do", "up", 0), ("look", "see", ((99, 1), (-99, 2)))]
        self.assertEqual(plan_of(sample_world(), nodes), nodes)

    def test_several_worths_may_lead_to_one_node(self):
        nodes = [("look", "see", ((0, 1), (1, 1), (2, 1))), END]
        self.assertEqual(plan_of(sample_world(), nodes), nodes)

    def test_two_hundred_nodes_and_somewhat_more(self):
        for size in (200, 260):
            nodes = [("do", "roll", place) for place in range(1, size)] + [END]
            self.assertEqual(plan_of(sample_world(), nodes), nodes)

    def test_what_is_told_may_be_handed_in(self):
        told = plan_of(sample_world(), [("do", "up", 1), END])
        self.assertEqual(plan_of(sample_world(), told), told)
        self.assertIsNot(plan_of(sample_world(), told), told)

    def test_what_was_handed_in_stays_and_may_be_changed_behind(self):
        world = sample_world()
        nodes = [("do", "up", 1), END]
        told = plan_of(world, nodes)
        self.assertEqual((world, nodes), (sample_world(), [("do", "up", 1), END]))
        nodes.clear()
        self.assertEqual(told, [("do", "up", 1), END])
        nodes.append(END)
        told.clear()
        self.assertEqual(nodes, [END])

    def test_a_name_of_another_world(self):
        other = world_of([("a", 2)], [("see", 1, YES, [[]])], [("up", 1, A)], YES, YES)
        plan_of(other, [("do", "see", 1), ("look", "up", ())])
        with self.assertRaises(NoName):
            plan_of(other, [("do", "up", 0)])


class PlanRefused(unittest.TestCase):
    def check(self, refusal, nodes):
        kept = copy.deepcopy(nodes)
        world = sample_world()
        with self.subTest(nodes=nodes):
            with self.assertRaises(refusal) as caught:
                plan_of(world, nodes)
            self.assertIs(type(caught.exception), refusal)
            self.assertEqual((world, nodes), (sample_world(), kept))

    def test_no_node(self):
        self.check(NoPlan, [])

    def test_a_next_one_that_is_no_nodes_number_at_a_deed(self):
        for follower in (2, 3, 10 ** 30, -1, -2):
            self.check(NoPlan, [("do", "up", follower), END])
            self.check(NoPlan, [END, ("do", "up", follower)])

    def test_a_next_one_that_is_no_nodes_number_at_a_fork(self):
        for follower in (2, 3, 10 ** 30, -1, -2):
            self.check(NoPlan, [("look", "see", ((0, follower),)), END])
            self.check(NoPlan, [END, ("look", "see", ((0, 1), (1, 0), (5, follower)))])
            self.check(NoPlan, [END, ("look", "see", ((0, follower), (1, 0), (5, 1)))])

    def test_two_forks_for_one_worth(self):
        self.check(NoPlan, [("look", "see", ((0, 1), (0, 1))), END])
        self.check(NoPlan, [("look", "see", ((0, 1), (1, 1), (0, 0))), END])
        self.check(NoPlan, [END, ("look", "peep", ((-1, 1), (1, 1), (-1, 0)))])

    def test_a_name_that_is_no_deeds(self):
        for name in ("nothing", "see", "peep", "a", "b", "ups", ""):
            self.check(NoName, [("do", name, 1), END])
            self.check(NoName, [END, ("do", "up", 0), ("do", name, 1)])

    def test_a_name_that_is_no_looks(self):
        for name in ("nothing", "up", "shut", "a", "b", "se", ""):
            self.check(NoName, [("look", name, ((0, 1),)), END])
            self.check(NoName, [END, ("look", "see", ()), ("look", name, ())])

    def test_where_both_are_there(self):
        for wrong in (("do", "up", 7), ("look", "see", ((0, 7),)), ("look", "see", ((0, 0), (0, 0)))):
            for strange in (("do", "nothing", 0), ("look", "nothing", ())):
                self.check(NoPlan, [strange, wrong])
                self.check(NoPlan, [wrong, strange])
        self.check(NoPlan, [("do", "nothing", 7)])
        self.check(NoPlan, [("look", "nothing", ((0, 7),))])
        self.check(NoPlan, [("look", "nothing", ((0, 0), (0, 0)))])


class Ends(unittest.TestCase):
    def check(self, nodes, standing, choices, expected):
        told = run(sample_world(), plan_of(sample_world(), nodes), standing, choices)
        self.assertEqual(told, expected)
        self.assertEqual((type(told), type(told[1]), type(told[2])), (tuple, list, tuple))

    def test_goal(self):
        self.check([END], (2, 1), [], ("goal", [], (2, 1)))
        self.check([("do", "up", 1), ("do", "up", 2), END], (0, 1), [0, 0],
                   ("goal", [("up", 0), ("up", 0)], (2, 1)))
        self.check([("look", "see", ((1, 1), (2, 2))), ("do", "up", 2), END], (1, 0), [0],
                   ("goal", [("see", 1), ("up", 0)], (2, 0)))

    def test_short(self):
        self.check([END], (1, 1), [], ("short", [], (1, 1)))
        self.check([("do", "up", 1), END], (0, 1), [0], ("short", [("up", 0)], (1, 1)))
        self.check([("look", "peep", ((-1, 1),)), END], (0, 1), [], ("short", [("peep", -1)], (0, 1)))

    def test_need(self):
        self.check([("do", "up", 1), END], (4, 0), [0], ("need", [], (4, 0)))
        self.check([("do", "up", 0)], (2, 0), [0, 0, 0, 0], ("need", [("up", 0), ("up", 0)], (4, 0)))
        self.check([("look", "see", ((4, 1),)), ("do", "up", 0)], (4, 0), [], ("need", [("see", 4)], (4, 0)))

    def test_lost(self):
        self.check([("look", "see", ()), END], (3, 0), [5], ("lost", [("see", 3)], (3, 0)))
        self.check([("do", "up", 1), ("look", "peep", ((0, 2), (1, 2))), END], (1, 1), [0],
                   ("lost", [("up", 0), ("peep", -1)], (2, 1)))

    def test_open(self):
        self.check([("do", "up", 1), END], (0, 0), [], ("open", [], (0, 0)))
        self.check([("do", "up", 1), ("look", "see", ((1, 0),))], (0, 1), [0],
                   ("open", [("up", 0), ("see", 1)], (1, 1)))

    def test_round(self):
        self.check([("look", "see", ((3, 0),))], (3, 0), [7], ("round", [("see", 3)], (3, 0)))
        self.check([("look", "see", ((3, 1),)), ("look", "peep", ((0, 2),)), ("look", "see", ((3, 1),))], (3, 0), [],
                   ("round", [("see", 3), ("peep", 0), ("see", 3)], (3, 0)))
        self.check([("do", "up", 1), ("look", "see", ((2, 2),)), ("look", "see", ((2, 1),))], (1, 1), [0],
                   ("round", [("up", 0), ("see", 2), ("see", 2)], (2, 1)))

    def test_a_node_may_be_come_to_again_behind_a_deed(self):
        nodes = [("look", "see", ((0, 1), (1, 1), (2, 2))), ("do", "up", 0), END]
        self.check(nodes, (0, 0), [0, 0], ("goal", [("see", 0), ("up", 0), ("see", 1), ("up", 0), ("see", 2)], (2, 0)))

    def test_a_deed_that_changes_nothing_is_a_deed_too(self):
        nodes = [("look", "peep", ((-1, 1), (0, 2))), ("do", "shut", 0), END]
        self.check(nodes, (2, 1), [1, 1], ("open", [("peep", -1), ("shut", 1), ("peep", -1), ("shut", 1), ("peep", -1)],
                                           (2, 1)))

    def test_the_same_look_at_another_node_is_no_round(self):
        self.check([("look", "see", ((2, 1),)), ("look", "see", ((2, 2),)), END], (2, 0), [],
                   ("goal", [("see", 2), ("see", 2)], (2, 0)))

    def test_lost_goes_by_what_is_shown_then(self):
        self.check([("look", "see", ((1, 1),)), ("do", "up", 0)], (1, 0), [0],
                   ("lost", [("see", 1), ("up", 0), ("see", 2)], (2, 0)))


class Choices(unittest.TestCase):
    def played(self, nodes, standing, choices):
        return run(sample_world(), plan_of(sample_world(), nodes), standing, choices)

    def test_one_for_each_deed_in_turn_and_none_for_looks(self):
        nodes = [("do", "roll", 1), ("look", "see", ((1, 2),)), ("do", "roll", 3), ("do", "up", 4), END]
        self.assertEqual(self.played(nodes, (4, 0), [1, 2, 0]),
                         ("goal", [("roll", 1), ("see", 1), ("roll", 2), ("up", 0)], (2, 1)))

    def test_the_need_is_looked_at_ahead_of_the_choice(self):
        self.assertEqual(self.played([("do", "up", 0)], (4, 1), []), ("need", [], (4, 1)))
        self.assertEqual(self.played([("do", "shut", 0)], (4, 1), [0]), ("need", [("shut", 0)], (4, 0)))
        self.assertEqual(self.played([("do", "shut", 0)], (4, 1), [1]), ("open", [("shut", 1)], (4, 1)))

    def test_too_many_are_not_looked_at(self):
        self.assertEqual(self.played([END], (2, 0), [3, 4]), ("goal", [], (2, 0)))
        self.assertEqual(self.played([("do", "up", 1), END], (1, 0), [0] + [1] * 100), ("goal", [("up", 0)], (2, 0)))

    def test_greater_than_the_ways_are_many(self):
        for choice, way in ((3, 0), (4, 1), (5, 2), (6, 0), (10 ** 30, 1), (10 ** 30 + 1, 2)):
            told = self.played([("do", "roll", 1), END], (3, 0), [choice])
            self.assertEqual(told[1], [("roll", way)])
            self.assertEqual(told[2], [(0, 0), (1, 0), (3, 1)][way])
        self.assertEqual(self.played([("do", "up", 1), END], (1, 0), [9]), ("goal", [("up", 0)], (2, 0)))

    def test_from_any_standing(self):
        world = world_of([("a", 2)], [], [], same("a", 0), same("a", 1))
        self.assertEqual(run(world, [END], (1,), []), ("goal", [], (1,)))

    def test_a_name_that_is_none_in_this_world(self):
        world = world_of([("a", 2)], [], [], YES, YES)
        for node in (("do", "up", 0), ("look", "see", ())):
            with self.assertRaises(NoName):
                run(world, [node], (0,), [0])


class Owned(unittest.TestCase):
    def test_what_was_handed_in_stays_and_what_is_told_is_the_askers_own(self):
        world, choices = sample_world(), [1, 2, 0]
        plan = plan_of(world, [("do", "roll", 1), ("look", "see", ((0, 2), (1, 2))), ("do", "roll", 0)])
        kept = copy.deepcopy((world, plan, choices))
        told = run(world, plan, (3, 0), choices)
        before = copy.deepcopy(told)
        self.assertEqual((world, plan, choices), kept)
        plan.reverse()
        choices.clear()
        self.assertEqual(told, before)
        told[1].clear()
        world, plan, choices = kept
        self.assertEqual(run(world, plan, (3, 0), choices), before)


class LongRuns(unittest.TestCase):
    def test_more_than_a_hundred_deeds(self):
        nodes = [("do", "roll", 0)]
        self.assertEqual(run(sample_world(), nodes, (0, 0), [2] * 151), ("open", [("roll", 2)] * 151, (0, 1)))

    def test_several_hundred_looks_between_two_deeds(self):
        nodes = [("look", "see", ((2, place),)) for place in range(1, 500)] + [("do", "up", 500), END]
        self.assertEqual(run(sample_world(), nodes, (2, 0), []), ("open", [("see", 2)] * 499, (2, 0)))
        nodes[499] = ("look", "peep", ((0, 0),))
        self.assertEqual(run(sample_world(), nodes, (2, 0), []), ("round", [("see", 2)] * 499 + [("peep", 0)], (2, 0)))

    def test_three_thousand_choices_with_looks_at_all_nodes(self):
        forks = [tuple((worth, place) for worth in range(5)) for place in range(1, 200)]
        nodes = [("look", "see", one) for one in forks] + [("do", "roll", 0)]
        end, steps, standing = run(sample_world(), plan_of(sample_world(), nodes), (4, 0), list(range(3000)))
        self.assertEqual((end, len(steps), standing), ("open", 3000 * 200 + 199, (1, 0)))
        self.assertEqual([step for step in steps if step[0] == "roll"], [("roll", place % 3) for place in range(3000)])


class AnotherReckoning(unittest.TestCase):
    """Each told run is followed step by step, and its end held against what the point says of it."""

    def follow(self, other, plan, standing, choices, told):
        end, steps, last = told
        number, done, looked = 0, 0, []
        for place, (name, what) in enumerate(steps):
            node = plan[number]
            self.assertEqual(node[1], name)
            if node[0] == "do":
                self.assertIn(standing, other.need[name])
                ways = other.comes[name][standing]
                self.assertEqual(what, choices[done] % len(ways))
                standing, number, done, looked = ways[what], node[2], done + 1, []
            else:
                self.assertNotIn(number, looked)
                self.assertEqual(what, other.shows[name][standing])
                looked.append(number)
                number = dict(node[2]).get(what)
                if number is None:
                    return self.assertEqual((end, place, last), ("lost", len(steps) - 1, standing))
        self.assertEqual(last, standing)
        node = plan[number]
        if node[0] == "end":
            self.assertEqual(end, "goal" if standing in other.goal else "short")
        elif node[0] == "look":
            self.assertEqual((end, number in looked), ("round", True))
        elif standing not in other.need[node[1]]:
            self.assertEqual(end, "need")
        else:
            self.assertEqual((end, done), ("open", len(choices)))

    def test_chance_plans(self):
        chance = random.Random(13)
        seen = {}
        for world, other in chance_worlds(13, 150):
            for _ in range(6):
                plan = plan_of(world, chance_plan(chance, other, chance.randrange(1, 9), chance.random() < 0.3))
                standing = chance.choice(other.every)
                choices = [chance.randrange(7) for _ in range(chance.randrange(9))]
                told = run(world, plan, standing, choices)
                self.follow(other, plan, standing, choices, told)
                seen[told[0]] = seen.get(told[0], 0) + 1
        self.assertEqual(sorted(seen), ["goal", "lost", "need", "open", "round", "short"])
        self.assertGreater(min(seen.values()), 10, seen)


if __name__ == "__main__":
    unittest.main()
