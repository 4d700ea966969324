"""Points 2, 3, 4, 26 and 27: forkplan.shorter."""

import copy
import itertools
import random
import unittest

from forkplan.errors import NotSure
from forkplan.find import found_plan
from forkplan.judge import judged, worst_price
from forkplan.known import first_known
from forkplan.plans import plan_of, run
from forkplan.shorter import known_at, shorter
from forkplan.worlds import world_of
from samples import (END, YES, OtherReckoning, both, box, chance_plan, chance_worlds, led_elsewhere, lists_in, lock,
                     moved_nodes, number, same, sure_plans, under)

A, B = box("a"), box("b")


def hall(begin=YES, goal=None):
    """a is to come to 2; b is a hidden switch; wait changes nothing, shut and slip only where b is 1."""
    deeds = [
        ("up", 3, under("a", 2), [[("a", ("plus", A, number(1)))]]),
        ("roll", 4, under("a", 2), [[("a", number(2))], [("a", number(1))], [("a", number(1))]]),
        ("wait", 1, YES, [[]]),
        ("turn", 1, YES, [[("b", B), ("a", ("plus", A, number(3)))], [("b", ("less", B, number(4)))]]),
        ("shut", 2, YES, [[("b", number(0))]]),
        ("slip", 5, YES, [[], [("b", number(0))]]),
    ]
    looks = [("see", 10, A), ("peep", 20, ("less", number(0), B)), ("dull", 30, number(7))]
    return world_of([("a", 3), ("b", 2)], deeds, looks, begin, same("a", 2) if goal is None else goal)


def see(*numbers):
    """A look at a, with a fork for 0 and so on; None for a worth without one."""
    return ("look", "see", tuple((worth, to) for worth, to in enumerate(numbers) if to is not None))


# Looks at a, steps up to 2 and ends there.
CLIMB = [see(1, 2, 3), ("do", "up", 2), ("do", "up", 3), END]
AT_0, AT_1, AT_2 = same("a", 0), same("a", 1), same("a", 2)
SHUT, OPEN = same("b", 0), same("b", 1)


class KnownAt(unittest.TestCase):
    def check(self, world, nodes, expected):
        plan = plan_of(world, nodes)
        before = copy.deepcopy((world, plan))
        with self.subTest(nodes=nodes):
            told = known_at(world, plan)
            self.assertEqual(told, expected)
            self.assertTrue(all(type(known) is list for known in told))
            self.assertEqual((world, plan), before)

    def test_plans_that_surely_work(self):
        self.check(hall(AT_2), [END], [[(2, 0), (2, 1)]])
        self.check(hall(), CLIMB, [[(0, 0), (0, 1), (1, 0), (1, 1), (2, 0), (2, 1)], [(0, 0), (0, 1)],
                                   [(1, 0), (1, 1)], [(2, 0), (2, 1)]])

    def test_nodes_to_which_no_pair_comes(self):
        self.check(hall(both(AT_1, SHUT)), CLIMB, [[(1, 0)], [], [(1, 0)], [(2, 0)]])
        self.check(hall(both(AT_2, SHUT)), [END, ("do", "up", 0), ("do", "wait", 2), see(1, 1, 0)],
                   [[(2, 0)], [], [], []])

    def test_sorted_and_each_once(self):
        # Both ways of roll, and up from 0, come to the last nodes again and again, and the greater standings first.
        nodes = [see(1, 2), ("do", "roll", 3), ("do", "up", 4), see(None, 2, 4), END]
        self.check(hall(under("a", 2)), nodes, [[(0, 0), (0, 1), (1, 0), (1, 1)], [(0, 0), (0, 1)], [(1, 0), (1, 1)],
                                                [(1, 0), (1, 1), (2, 0), (2, 1)], [(2, 0), (2, 1)]])
        turned = [("look", "peep", ((-1, 1), (0, 2))), ("do", "slip", 3), ("do", "wait", 3), END]
        self.check(hall(AT_2), turned, [[(2, 0), (2, 1)], [(2, 1)], [(2, 0)], [(2, 0), (2, 1)]])

    def test_plans_that_fail(self):
        first = [(0, 0), (0, 1)]
        self.check(hall(AT_0), [END], [first])
        self.check(hall(AT_0), [("do", "up", 1), END], [first, [(1, 0), (1, 1)]])
        # Of a deed whose need does not hold, and of a look without a fork, nothing comes; beside them it goes on.
        self.check(hall(both(SHUT, YES)), [("do", "up", 1), END], [[(0, 0), (1, 0), (2, 0)], [(1, 0), (2, 0)]])
        self.check(hall(SHUT), [see(1, None, 2), END, ("do", "up", 1)], [[(0, 0), (1, 0), (2, 0)], [(0, 0)], [(2, 0)]])
        self.check(hall(AT_0), [see(None, 1, 1), END], [first, []])
        far = [see(1, 2, 2), ("do", "up", 3), ("do", "up", 4), ("do", "up", 4), ("do", "wait", 5), END]
        self.check(hall(SHUT), far, [[(0, 0), (1, 0), (2, 0)], [(0, 0)], [(1, 0), (2, 0)], [(1, 0)],
                                     [(2, 0)], [(2, 0)]])

    def test_plans_that_go_round(self):
        self.check(hall(both(AT_0, OPEN)), [("do", "slip", 0)], [[(0, 0), (0, 1)]])
        self.check(hall(SHUT), [see(0, 0, 1), END], [[(0, 0), (1, 0), (2, 0)], [(2, 0)]])
        self.check(hall(both(AT_0, SHUT)), [("do", "wait", 1), ("look", "dull", ((7, 2),)), ("do", "turn", 1), END],
                   [[(0, 0)], [(0, 0)], [(0, 0)], []])

    def test_each_told_list_is_the_askers_own(self):
        for begin, nodes in ((YES, CLIMB), (AT_1, CLIMB), (AT_0, [END, END]), (YES, [("do", "slip", 0)])):
            world, plan = hall(begin), list(nodes)
            told = known_at(world, plan)
            before = copy.deepcopy(told)
            lists = lists_in(told) + lists_in(known_at(world, plan)) + lists_in(world)
            self.assertEqual(len({id(one) for one in lists}), len(lists))
            for one in lists_in(told):
                one.append("x")
            self.assertEqual(known_at(world, plan), before)
            told.clear()
            self.assertEqual(known_at(world, plan), before)
            self.assertEqual((world, plan), (hall(begin), list(nodes)))

    def test_another_reckoning(self):
        chance = random.Random(26)
        kinds = {"sure": 0, "fails": 0, "endless": 0}
        for world, other in chance_worlds(26, 400):
            plan = chance_plan(chance, other, chance.randrange(1, 9), chance.random() < 0.6)
            known = other.known_at(plan)
            self.assertEqual(known_at(world, plan), [sorted(known.get(place, [])) for place in range(len(plan))])
            kinds[judged(world, plan)[0]] += 1
        self.assertGreater(min(kinds.values()), 20, kinds)


class Checks(unittest.TestCase):
    def check(self, world, nodes, expected):
        plan = plan_of(world, nodes)
        before = copy.deepcopy((world, plan))
        with self.subTest(nodes=nodes):
            told = shorter(world, plan)
            self.assertEqual(told, expected)
            self.assertIs(type(told), list)
            self.assertIsNot(told, plan)
            self.assertEqual((world, plan), before)
            self.check_short(world, plan, told)

    def check_short(self, world, plan, short):
        """What point 27 promises of the shorter plan."""
        self.assertEqual(plan_of(world, short), short)
        self.assertEqual(judged(world, short)[0], "sure")
        self.assertLessEqual(len(short), len(plan))
        self.assertLessEqual(worst_price(world, short), worst_price(world, plan))
        again = shorter(world, short)
        self.assertEqual(again, short)
        self.assertIsNot(again, short)
        self.check_runs(world, plan, short)

    def check_runs(self, world, plan, short):
        other = OtherReckoning(world)
        idle = {place for place, known in other.known_at(plan).items() if is_idle(other, plan[place], known)}
        chance = random.Random(len(plan))
        for at in first_known(world):
            for _ in range(4):
                choices, left, place, now = [], [], 0, at
                while plan[place][0] != "end":
                    if plan[place][0] == "do":
                        choices.append(chance.randrange(8))
                        left += [choices[-1]] * (place not in idle)
                        coming = other.comes[plan[place][1]][now]
                        place, now = plan[place][2], coming[choices[-1] % len(coming)]
                    else:
                        place = dict(plan[place][2])[other.shows[plan[place][1]][now]]
                end, steps, standing = run(world, plan, at, choices)
                self.assertEqual((end, standing), ("goal", now))
                told = run(world, short, at, left)
                self.assertEqual((told[0], told[2]), ("goal", now))
                self.assertEqual(len([name for name, _ in told[1] if name in other.need]), len(left))
                self.assertLessEqual(sum(other.price[name] for name, _ in told[1]),
                                     sum(other.price[name] for name, _ in steps))


def is_idle(other, node, known):
    """Whether a node is left out, by its knowledge."""
    if node[0] == "do":
        return all(new == at for at in known for new in other.comes[node[1]][at])
    return node[0] == "look" and len({other.shows[node[1]][at] for at in known}) == 1


class Looks(Checks):
    def test_nothing_to_leave_out(self):
        self.check(hall(), CLIMB, CLIMB)
        self.check(hall(AT_2), [END], [END])
        self.check(hall(AT_0), [("do", "up", 1), ("do", "up", 2), END], [("do", "up", 1), ("do", "up", 2), END])

    def test_a_look_that_shows_one_worth_alone(self):
        self.check(hall(AT_0), [("do", "up", 1), see(3, 2, 3), ("do", "up", 3), END],
                   [("do", "up", 1), ("do", "up", 2), END])
        self.check(hall(AT_0), [("do", "up", 1), ("look", "dull", ((7, 2),)), ("do", "up", 3), END],
                   [("do", "up", 1), ("do", "up", 2), END])

    def test_it_is_the_first_node(self):
        self.check(hall(AT_1), CLIMB, [("do", "up", 1), END])
        self.check(hall(AT_0), CLIMB, [("do", "up", 1), ("do", "up", 2), END])
        self.check(hall(AT_2), CLIMB, [END])
        self.check(hall(), [("look", "dull", ((7, 1),))] + [led_elsewhere(node, lambda to: to + 1) for node in CLIMB],
                   CLIMB)

    def test_through_several(self):
        nodes = [("look", "dull", ((7, 3),)), END, ("look", "dull", ((7, 5),)), see(None, 2, None), ("do", "up", 1),
                 ("look", "peep", ((0, 4), (-1, 1)))]
        self.check(hall(both(AT_1, SHUT)), nodes, [("do", "up", 1), END])
        many = [("look", "dull", ((7, place),)) for place in range(1, 150)]
        self.check(hall(AT_2), many + [END], [END])

    def test_a_look_that_shows_two_is_kept_though_both_lead_to_one_node(self):
        self.check(hall(under("a", 2)), [see(1, 1), ("do", "roll", 2), see(None, 3, 4), ("do", "up", 4), END],
                   [see(1, 1), ("do", "roll", 2), see(None, 3, 4), ("do", "up", 4), END])
        self.check(hall(AT_2), [("look", "peep", ((-1, 1), (0, 1))), END], [("look", "peep", ((-1, 1), (0, 1))), END])

    def test_what_is_shown_at_another_node_does_not_count(self):
        # The same look is spare behind itself, and not ahead.
        nodes = [see(1, 2, 3), see(4, 2, 3), see(4, 5, 3), END, ("do", "up", 2), ("do", "up", 3)]
        self.check(hall(), nodes, [see(1, 2, 3), ("do", "up", 2), ("do", "up", 3), END])
        twice = [see(1, 1, 2), ("do", "up", 3), END, see(2, 4, 2), ("do", "up", 2)]
        self.check(hall(), twice, [see(1, 1, 2), ("do", "up", 3), END, see(None, 4, 2), ("do", "up", 2)])


class Deeds(Checks):
    def test_a_deed_that_never_changes_anything(self):
        for name in ("wait", "turn"):
            self.check(hall(AT_0), [("do", "up", 1), ("do", name, 2), ("do", "up", 3), END],
                       [("do", "up", 1), ("do", "up", 2), END])
            self.check(hall(AT_1), [("do", name, 1), ("do", "up", 2), END], [("do", "up", 1), END])
            self.check(hall(AT_1), [("do", "up", 1), ("do", name, 2), END], [("do", "up", 1), END])
            self.check(hall(AT_2), [("do", name, 1), END], [END])

    def test_a_deed_that_changes_nothing_with_the_knowledge_there(self):
        for name in ("shut", "slip"):
            nodes = [("do", "up", 1), ("do", name, 2), END]
            self.check(hall(both(AT_1, SHUT)), nodes, [("do", "up", 1), END])
            self.check(hall(both(AT_1, OPEN)), nodes, nodes)
            # At one of the standings it does change something.
            self.check(hall(AT_1), nodes, nodes)

    def test_a_deed_that_changes_something_in_one_way_alone(self):
        self.check(hall(both(AT_2, OPEN)), [("do", "slip", 1), END], [("do", "slip", 1), END])
        self.check(hall(both(AT_1, OPEN)), [("do", "slip", 1), ("do", "up", 2), END],
                   [("do", "slip", 1), ("do", "up", 2), END])

    def test_behind_a_deed_that_settles_it(self):
        self.check(hall(AT_1), [("do", "shut", 1), ("do", "slip", 2), ("do", "shut", 3), ("do", "up", 4), END],
                   [("do", "shut", 1), ("do", "up", 2), END])
        self.check(hall(AT_1), [("do", "slip", 1), ("do", "shut", 2), ("do", "slip", 3), ("do", "up", 4), END],
                   [("do", "slip", 1), ("do", "shut", 2), ("do", "up", 3), END])

    def test_in_one_fork_alone(self):
        nodes = [("look", "peep", ((0, 1), (-1, 2))), ("do", "shut", 3), ("do", "shut", 3), END]
        self.check(hall(AT_2), nodes, [("look", "peep", ((-1, 1), (0, 2))), ("do", "shut", 2), END])

    def test_through_several_looks_and_deeds(self):
        nodes = [("do", "wait", 4), ("do", "turn", 5), END, see(0, 1, 0), ("look", "dull", ((7, 3),)), ("do", "up", 6),
                 ("do", "wait", 7), see(2, 2, 2)]
        self.check(hall(AT_1), nodes, [("do", "up", 1), END])
        many = [("do", ("wait", "turn")[place % 2], place) for place in range(1, 200)]
        self.check(hall(AT_2), many + [END], [END])

    def test_a_price_that_falls(self):
        world = hall(AT_1)
        plan = [see(0, 1, 0), ("do", "wait", 2), ("do", "up", 3), ("do", "turn", 4), END]
        self.assertEqual((worst_price(world, plan), worst_price(world, shorter(world, plan))), (15, 3))


class Forks(Checks):
    def test_forks_for_what_is_never_shown(self):
        self.check(hall(under("a", 2)), CLIMB, [see(1, 2), ("do", "up", 2), ("do", "up", 3), END])
        self.check(hall(), [CLIMB[0][:2] + (CLIMB[0][2] + ((9, 0), (-4, 1)),)] + CLIMB[1:], CLIMB)
        self.check(hall(AT_2), [("look", "peep", ((-2, 0), (-1, 1), (0, 2), (1, 0))), ("do", "shut", 2), END],
                   [("look", "peep", ((-1, 1), (0, 2))), ("do", "shut", 2), END])

    def test_what_only_they_lead_to_goes_too(self):
        nodes = [see(1, 4, 2), ("do", "up", 4), ("do", "wait", 3), ("look", "dull", ((1, 2),)), ("do", "up", 5), END]
        self.check(hall(under("a", 2)), nodes, [see(1, 2), ("do", "up", 2), ("do", "up", 3), END])

    def test_sorted_by_what_is_shown(self):
        nodes = [("look", "see", ((2, 3), (0, 1), (1, 2))), ("do", "up", 2), ("do", "up", 3), END]
        self.check(hall(), nodes, CLIMB)
        nodes = [("look", "peep", ((0, 1), (-1, 2))), END, ("do", "shut", 1)]
        self.check(hall(AT_2), nodes, [("look", "peep", ((-1, 1), (0, 2))), ("do", "shut", 2), END])
        # As numbers, not by their figures.
        world = world_of([("a", 5), ("b", 5)], [("set", 1, YES, [[("a", number(0))]])],
                         [("both", 1, ("less", ("plus", A, nested_five(A)), B))], YES, same("a", 0))
        forks = tuple((worth, 1) for worth in sorted(range(-4, 25), key=str))
        worths = [six - b for six in (0, 6, 12, 18, 24) for b in (4, 3, 2, 1, 0)]
        self.check(world, [("look", "both", forks), ("do", "set", 2), END],
                   [("look", "both", tuple((worth, 1) for worth in worths)), ("do", "set", 2), END])


def nested_five(leaf):
    """Five times a thing."""
    return ("plus", ("plus", leaf, leaf), ("plus", leaf, ("plus", leaf, leaf)))


class Nodes(Checks):
    def test_nodes_to_which_no_way_leads(self):
        self.check(hall(AT_2), [END, ("do", "up", 0), END, see(1, 2, 3)], [END])
        self.check(hall(AT_1), [("do", "up", 3), ("do", "up", 3), END, END], [("do", "up", 1), END])

    def test_rings_to_which_no_way_leads(self):
        ring = [("do", "wait", 2), ("do", "turn", 3), ("look", "dull", ((7, 4),)), ("look", "dull", ((7, 1),)),
                ("do", "wait", 5), ("look", "see", ())]
        self.check(hall(AT_2), [END] + ring, [END])

    def test_ends_are_one(self):
        self.check(hall(), [see(1, 2, 3), ("do", "up", 2), ("do", "up", 4), END, END], CLIMB)
        self.check(hall(AT_2), [("look", "peep", ((-1, 1), (0, 2))), END, END],
                   [("look", "peep", ((-1, 1), (0, 1))), END])

    def test_deeds_with_the_same_behind_them_are_one(self):
        nodes = [see(1, 3, 4), ("do", "up", 2), ("do", "up", 5), ("do", "up", 4), END, END]
        self.check(hall(), nodes, CLIMB)

    def test_deeds_that_part_later_are_not(self):
        # From 0 it is up, up; from 1 it is up alone: the first two are called alike, but part behind.
        self.check(hall(under("a", 2)), [see(1, 2), ("do", "up", 3), ("do", "up", 4), ("do", "up", 4), END],
                   [see(1, 2), ("do", "up", 2), ("do", "up", 3), END])
        nodes = [("look", "peep", ((-1, 1), (0, 2))), ("do", "up", 3), ("do", "up", 4), ("do", "shut", 4), END]
        self.check(hall(AT_1), nodes, nodes)

    def test_looks_with_the_same_forks_are_one(self):
        nodes = [("look", "peep", ((-1, 1), (0, 2))), ("look", "see", ((2, 3), (1, 4))), ("look", "see", ((1, 5), (2, 3))),
                 END, ("do", "up", 3), ("do", "up", 6), END]
        self.check(hall(("not", AT_0)), nodes,
                   [("look", "peep", ((-1, 1), (0, 1))), see(None, 2, 3), ("do", "up", 3), END])

    def test_looks_with_the_same_forks_but_for_what_is_never_shown_are_one(self):
        nodes = [("look", "peep", ((-1, 1), (0, 2))), ("look", "see", ((0, 0), (1, 4), (2, 3))), see(None, 4, 3), END,
                 ("do", "up", 3)]
        self.check(hall(("not", AT_0)), nodes,
                   [("look", "peep", ((-1, 1), (0, 1))), see(None, 2, 3), ("do", "up", 3), END])

    def test_looks_that_show_other_worths_are_two(self):
        # One may show 1 and 2, the other one 0, 1 and 2: the same where both have a fork, but not the same forks.
        begin = ("not", both(AT_0, SHUT))
        nodes = [("look", "peep", ((-1, 1), (0, 2))), see(3, 4, 5), see(3, 4, 5), ("do", "up", 4), ("do", "up", 5), END]
        self.check(hall(begin), nodes, nodes[:2] + [see(None, 4, 5)] + nodes[3:])

    def test_another_name_is_not_alike(self):
        nodes = [("look", "peep", ((-1, 1), (0, 2))), ("do", "slip", 3), ("do", "up", 3), END]
        self.check(hall(both(AT_1, YES), ("not", AT_0)), nodes, nodes)
        world = world_of([("a", 2), ("b", 2), ("c", 2)], [], [("see", 1, A), ("spy", 1, A), ("peep", 1, B)], YES, YES)
        nodes = [("look", "peep", ((0, 1), (1, 2))), see(3, 3), ("look", "spy", ((0, 3), (1, 3))), END]
        self.check(world, nodes, nodes)

    def test_such_as_lead_to_one_anothers_likes(self):
        # Two rings of a look and a deed, each leading to the other one.
        nodes = [("look", "peep", ((-1, 1), (0, 3))), see(2, 2, 5), ("do", "up", 3), see(4, 4, 6), ("do", "up", 1), END, END]
        self.check(hall(), nodes, [("look", "peep", ((-1, 1), (0, 1))), see(2, 2, 3), ("do", "up", 1), END])

    def test_rings_that_lead_back_to_the_first_node(self):
        ring = [see(1, 1, 2), ("do", "up", 0), END]
        self.check(hall(), ring, ring)
        self.check(hall(), [("look", "dull", ((7, 1),)), see(2, 3, 4), ("do", "up", 0), ("do", "up", 1), END], ring)
        self.check(hall(), [see(1, 2, 3), ("do", "up", 4), ("do", "up", 0), END, ("do", "wait", 0)], ring)
        self.check(hall(AT_1), [see(4, 2, 1), END, ("do", "up", 3), ("do", "wait", 0), ("do", "up", 0)],
                   [see(None, 1, 2), ("do", "up", 0), END])

    def test_rings_that_part_somewhere_are_not_put_together(self):
        nodes = [("look", "peep", ((-1, 1), (0, 3))), see(2, 2, 5), ("do", "up", 3), see(4, 4, 6), ("do", "up", 1), END,
                 ("do", "shut", 5)]
        world = hall(YES)
        told = shorter(world, nodes)
        self.assertEqual(len(told), 7)
        self.check_short(world, nodes, told)

    def test_a_whole_row_of_likes(self):
        forks = [("look", "peep", ((-1, 1), (0, 101)))]
        one = [("do", "slip", place) for place in range(2, 101)] + [("do", "up", 201)]
        other = [("do", "slip", place) for place in range(102, 201)] + [("do", "up", 202)]
        # Where b is known to be 0 slip changes nothing; where it may be 1 it does.
        self.check(hall(AT_1), forks + one + other + [END, END],
                   [("look", "peep", ((-1, 1), (0, 2))), ("do", "slip", 3), ("do", "up", 4), ("do", "slip", 5), END]
                   + [("do", "slip", place) for place in range(6, 102)] + [("do", "slip", 2)])

    def test_numbered_as_they_are_found(self):
        nodes = [see(4, 2, 6), ("do", "up", 6), ("do", "up", 3), ("do", "shut", 6), ("do", "up", 5), ("do", "up", 6), END]
        expected = [see(1, 2, 3), ("do", "up", 4), ("do", "up", 5), END, ("do", "up", 3), ("do", "shut", 3)]
        self.check(hall(), nodes, expected)
        chance = random.Random(27)
        for _ in range(20):
            order = [0] + chance.sample(range(1, 6), 5)
            self.check(hall(), moved_nodes(expected, order), expected)


class Again(Checks):
    def test_what_is_left_out_makes_others_alike(self):
        nodes = [("look", "peep", ((-1, 1), (0, 4))), ("do", "wait", 2), ("do", "up", 3), END, ("look", "dull", ((7, 5),)),
                 ("do", "up", 6), ("do", "turn", 7), END]
        self.check(hall(AT_1), nodes, [("look", "peep", ((-1, 1), (0, 1))), ("do", "up", 2), END])

    def test_alike_only_once_what_is_behind_them_is_one(self):
        nodes = [see(1, 4), ("do", "up", 2), see(0, 3, 0), ("do", "up", 7), ("look", "dull", ((7, 5),)), ("do", "up", 6),
                 ("do", "wait", 8), END, END]
        self.check(hall(under("a", 2)), nodes, [see(1, 2), ("do", "up", 2), ("do", "up", 3), END])

    def test_a_plan_made_shorter_stays_as_it_is(self):
        for world, nodes in ((hall(), CLIMB), (hall(AT_1), CLIMB), (lock(), found_plan(lock())[1])):
            short = shorter(world, nodes)
            self.assertEqual(shorter(world, short), short)


class Refused(unittest.TestCase):
    def test_plans_that_fail_and_that_go_on_for_ever(self):
        plans = ([END], [("do", "up", 1), END], [see(1, 1), END], [("do", "wait", 0)], [("do", "slip", 0)],
                 [("look", "dull", ((7, 0),))], [("do", "wait", 1), ("do", "wait", 0)], [see(0, 0, 1), END],
                 CLIMB[:3] + [("do", "wait", 0)], [see(1, 2, 3), ("do", "up", 2), ("do", "up", 0), ("do", "up", 3)])
        for nodes in plans:
            world, plan = hall(), list(nodes)
            with self.subTest(nodes=nodes), self.assertRaises(NotSure) as caught:
                shorter(world, plan)
            self.assertIs(type(caught.exception), NotSure)
            self.assertEqual((world, plan), (hall(), nodes))

    def test_what_would_fail_only_where_nothing_comes_is_not_refused(self):
        self.assertEqual(shorter(hall(AT_2), [see(2, 1, 3), ("do", "wait", 1), END, END]), [END])


class Owned(unittest.TestCase):
    def test_what_was_told_may_be_changed_behind(self):
        for begin in (YES, AT_1, AT_2):
            world, plan = hall(begin), list(CLIMB)
            told = shorter(world, plan)
            before = list(told)
            told.append("x")
            told[0] = "y"
            self.assertEqual(shorter(world, plan), before)
            self.assertEqual((world, plan), (hall(begin), CLIMB))

    def test_what_was_handed_in_may_be_changed_behind(self):
        world, plan = hall(), list(CLIMB)
        told = shorter(world, plan)
        plan.clear()
        for one in lists_in(world):
            one.clear()
        self.assertEqual(told, CLIMB)


class AnotherReckoning(Checks):
    """Point 27 one thing at a time, in any order, until nothing is left to do."""

    def changed_once(self, chance, other, plan):
        """The plan with one thing changed, or None where there is nothing to change."""
        known = other.known_at(plan)
        numbers = chance.sample(sorted(known), len(known))
        for place in numbers:
            node = plan[place]
            if is_idle(other, node, known[place]):
                shown = [other.shows[node[1]][at] for at in known[place]] if node[0] == "look" else None
                target = node[2] if node[0] == "do" else dict(node[2])[shown[0]]
                nodes = [led_elsewhere(one, lambda to: target if to == place else to) for one in plan]
                return nodes if place else moved_nodes(nodes, [target] + [n for n in range(len(nodes)) if n != target])
            if node[0] == "look":
                shown = {other.shows[node[1]][at] for at in known[place]}
                forks = tuple(fork for fork in node[2] if fork[0] in shown)
                if forks != node[2]:
                    return plan[:place] + [("look", node[1], forks)] + plan[place + 1:]
        for one, two in itertools.combinations(sorted(numbers), 2):
            if not self.part(plan, one, two) and any(two in followers(plan[place]) for place in numbers):
                return [led_elsewhere(node, lambda to: one if to == two else to) for node in plan]
        return None

    def part(self, plan, one, two):
        """Whether two nodes part: then what is seen or done from there on differs somewhere."""
        new, seen = [(one, two)], set()
        while new:
            pair = new.pop()
            if pair not in seen:
                seen.add(pair)
                one, two = plan[pair[0]], plan[pair[1]]
                worths = [sorted(worth for worth, _ in node[2]) if node[0] == "look" else [] for node in (one, two)]
                if one[:2] != two[:2] or worths[0] != worths[1]:
                    return True
                new += zip(followers(one), followers(two))
        return False

    def numbered(self, plan):
        order = [0]
        for place in order:
            order += [to for to in dict.fromkeys(followers(plan[place])) if to not in order]
        nodes = moved_nodes_of(plan, order)
        return [node[:2] + (tuple(sorted(node[2])),) if node[0] == "look" else node for node in nodes]

    def test_sure_plans_of_many_kinds(self):
        chance = random.Random(28)
        kinds = {"as it was": 0, "shorter": 0, "much shorter": 0, "cheaper": 0, "with looks": 0}
        for world, other, plan in sure_plans(27, 500):
            told = shorter(world, plan)
            small = plan
            while small is not None:
                last, small = small, self.changed_once(chance, other, small)
            self.assertEqual(told, self.numbered(last))
            self.check_short(world, plan, told)
            kinds["as it was"] += told == plan
            kinds["shorter"] += len(told) < len(plan)
            kinds["much shorter"] += len(told) < len(plan) - 3
            kinds["cheaper"] += worst_price(world, told) < worst_price(world, plan)
            kinds["with looks"] += any(node[0] == "look" for node in told)
        self.assertGreater(min(kinds.values()), 25, kinds)


def followers(node):
    """The next ones of a node, a look's sorted by what is shown."""
    return [] if node[0] == "end" else [node[2]] if node[0] == "do" else [to for _, to in sorted(node[2])]


def moved_nodes_of(plan, order):
    """As moved_nodes, but of some of the nodes, which lead to no others."""
    places = {number: place for place, number in enumerate(order)}
    return [led_elsewhere(plan[number], places) for number in order]


class Bounds(Checks):
    """Two hundred nodes over two hundred standings."""

    def world(self):
        boxes = [("a", 5), ("b", 5), ("c", 2), ("d", 2), ("e", 2)]
        ways = [[("a", ("plus", A, number(1)))], [("b", ("plus", B, number(1)))], [("c", ("less", number(1), box("c")))], []]
        return world_of(boxes, [("stir", 10 ** 29, YES, ways), ("wait", 1, YES, [[], [], [], []])],
                        [("see", 10 ** 29, A)], YES, YES)

    def test_nothing_to_leave_out(self):
        plan = [("do", "stir", place) for place in range(1, 200)] + [END]
        self.assertEqual(shorter(self.world(), plan), plan)
        self.assertEqual([len(known) for known in known_at(self.world(), plan)], [200] * 200)

    def test_every_other_node_left_out(self):
        plan = [("do", ("stir", "wait")[place % 2], place) for place in range(1, 201)] + [END]
        self.assertEqual(shorter(self.world(), plan), [("do", "stir", place) for place in range(1, 101)] + [END])

    def test_all_put_together(self):
        plan = [("look", "see", tuple((worth, place) for worth in range(5))) for place in range(1, 5)]
        plan += [("look", "see", tuple((worth, 5 + worth * 39) for worth in range(5)))]
        for worth in range(5):
            plan += [("do", "stir", place) for place in range(len(plan) + 1, len(plan) + 39)] + [END]
        self.assertEqual(len(plan), 200)
        # A look behind another shows as much again where all forks of the first one lead there.
        self.assertEqual(shorter(self.world(), plan), [
            ("look", "see", tuple((worth, place) for worth in range(5))) for place in range(1, 6)]
            + [("do", "stir", place) for place in range(6, 44)] + [END])


if __name__ == "__main__":
    unittest.main()
