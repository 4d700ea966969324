"""Points 2, 3, 4 and 14 to 17: forkplan.judge."""

import copy
import random
import unittest

from forkplan.errors import NoName, NotSure
from forkplan.find import found_plan
from forkplan.judge import judged, right_table, worst_price
from forkplan.known import first_known
from forkplan.plans import plan_of, run
from forkplan.worlds import world_of
from samples import YES, both, box, chance_plan, chance_worlds, number, same, under

A, B = box("a"), box("b")
END = ("end",)


def sample_world(begin=YES, goal=None):
    """a is to come to 2; a slip may do nothing, and b is a hidden switch that blocks it."""
    deeds = [
        ("up", 3, under("a", 2), [[("a", ("plus", A, number(1)))]]),
        ("slip", 5, same("b", 0), [[("a", number(2))], [("a", number(1))], [("a", number(1))]]),
        ("shut", 7, YES, [[("b", number(0))]]),
        ("stir", 1, YES, [[("a", number(0))], []]),
    ]
    looks = [("see", 10, A), ("peep", 20, ("less", number(0), B))]
    return world_of([("a", 3), ("b", 2)], deeds, looks, begin, same("a", 2) if goal is None else goal)


# Looks at a, steps up to 2 and ends there.
CLIMB = [("look", "see", ((0, 1), (1, 2), (2, 3))), ("do", "up", 2), ("do", "up", 3), END]
CLIMB_TABLE = [(0, (0, 0), 3), (0, (0, 1), 3), (0, (1, 0), 2), (0, (1, 1), 2), (0, (2, 0), 1), (0, (2, 1), 1),
               (1, (0, 0), 2), (1, (0, 1), 2), (2, (1, 0), 1), (2, (1, 1), 1), (3, (2, 0), 0), (3, (2, 1), 0)]


class Checks(unittest.TestCase):
    def check_fails(self, world, plan, end):
        told = judged(world, plan)
        self.assertEqual((type(told), len(told), told[0], type(told[2])), (tuple, 3, "fails", list))
        self.assertIn(told[1], first_known(world))
        self.assertTrue(all(type(choice) is int and choice >= 0 for choice in told[2]))
        self.assertEqual(run(world, plan, told[1], told[2])[0], end)

    def check_endless(self, world, plan, by_looks):
        told = judged(world, plan)
        self.assertEqual((type(told), len(told), told[0], type(told[2]), type(told[3])),
                         (tuple, 4, "endless", list, list))
        self.assertIn(told[1], first_known(world))
        self.assertIsNot(told[2], told[3])
        self.assertTrue(all(type(choice) is int and choice >= 0 for choice in told[2] + told[3]))
        self.assertEqual(told[3] == [], by_looks)
        if by_looks:
            self.assertEqual(run(world, plan, told[1], told[2])[0], "round")
        else:
            for many in range(12):
                self.assertEqual(run(world, plan, told[1], told[2] + told[3] * many)[0], "open")


class Sure(Checks):
    def check(self, world, nodes, table):
        plan = plan_of(world, nodes)
        self.assertEqual(judged(world, plan), ("sure", table))
        self.assertIs(right_table(world, plan, table), True)

    def test_an_end_alone(self):
        self.check(sample_world(same("a", 2)), [END], [(0, (2, 0), 0), (0, (2, 1), 0)])

    def test_a_plan_with_forks(self):
        self.check(sample_world(), CLIMB, CLIMB_TABLE)

    def test_ranks_are_the_greatest_number_behind(self):
        nodes = [("do", "slip", 1), ("look", "see", ((1, 2), (2, 3))), ("do", "up", 3), END]
        self.check(sample_world(both(same("a", 0), same("b", 0))), nodes,
                   [(0, (0, 0), 3), (1, (1, 0), 2), (1, (2, 0), 1), (2, (1, 0), 1), (3, (2, 0), 0)])

    def test_just_the_pairs_that_come(self):
        nodes = [("do", "up", 2), ("do", "slip", 0), END, ("do", "stir", 3)]
        self.check(sample_world(same("a", 1)), nodes,
                   [(0, (1, 0), 1), (0, (1, 1), 1), (2, (2, 0), 0), (2, (2, 1), 0)])

    def test_a_node_may_be_come_to_again_with_another_standing(self):
        nodes = [("look", "see", ((0, 1), (1, 1), (2, 2))), ("do", "up", 0), END]
        self.check(sample_world(same("b", 1)), nodes,
                   [(0, (0, 1), 5), (0, (1, 1), 3), (0, (2, 1), 1), (1, (0, 1), 4), (1, (1, 1), 2), (2, (2, 1), 0)])

    def test_nodes_are_sorted_as_numbers(self):
        nodes = [("do", "shut", place) for place in range(1, 12)] + [END]
        self.check(sample_world(both(same("a", 2), same("b", 0))), nodes,
                   [(place, (2, 0), 11 - place) for place in range(12)])

    def test_what_is_wrong_only_where_nothing_comes(self):
        nodes = [("look", "peep", ((0, 1), (1, 2))), END, ("do", "up", 2)]
        self.check(sample_world(both(same("a", 2), same("b", 0))), nodes, [(0, (2, 0), 1), (1, (2, 0), 0)])


class Fails(Checks):
    def test_short(self):
        self.check_fails(sample_world(), [END], "short")
        self.check_fails(sample_world(same("a", 0)), [("do", "up", 1), END], "short")

    def test_short_in_one_way_alone(self):
        world = sample_world(both(same("a", 0), same("b", 0)))
        told = judged(world, [("do", "slip", 1), END])
        self.assertIn(told, [("fails", (0, 0), [1]), ("fails", (0, 0), [2])])
        self.check_fails(world, [("do", "slip", 1), END], "short")

    def test_short_from_one_standing_alone(self):
        self.check_fails(sample_world(under("a", 2)), [("do", "up", 1), END], "short")

    def test_need(self):
        self.check_fails(sample_world(), [("do", "up", 0)], "need")
        self.assertEqual(judged(sample_world(same("a", 0)), [("do", "slip", 1), END]), ("fails", (0, 1), []))
        self.check_fails(sample_world(same("a", 1)), [("do", "up", 1), ("do", "up", 2), END], "need")

    def test_lost(self):
        self.check_fails(sample_world(), [("look", "see", ((1, 1), (2, 1))), ("do", "shut", 2), END], "lost")
        self.check_fails(sample_world(same("a", 2)), [("do", "stir", 1), ("look", "see", ((2, 2),)), END], "lost")

    def test_deep_in_the_plan(self):
        nodes = [("do", "stir", place) for place in range(1, 150)] + [("do", "up", 150), END]
        told = judged(sample_world(same("a", 2)), nodes)
        self.assertEqual((told[0], len(told[2])), ("fails", 149))
        self.check_fails(sample_world(same("a", 2)), nodes, "need")

    def test_a_fault_goes_ahead_of_going_round(self):
        nodes = [("look", "see", ((0, 1), (1, 2), (2, 3))), ("do", "stir", 0), ("look", "see", ((1, 2),)), END]
        self.check_endless(sample_world(same("a", 1)), nodes, True)
        self.check_endless(sample_world(same("a", 0)), nodes, False)
        far = nodes[:3] + [("do", "shut", 4), ("do", "shut", 5), ("do", "up", 6), END]
        self.check_fails(sample_world(), far, "need")


class Endless(Checks):
    def test_by_looks_alone(self):
        self.check_endless(sample_world(), [("look", "see", ((0, 0), (1, 0), (2, 0)))], True)
        nodes = [("look", "see", ((0, 1), (1, 1), (2, 3))), ("look", "peep", ((0, 2), (-1, 2))),
                 ("look", "see", ((0, 1), (1, 1))), END]
        self.check_endless(sample_world(), nodes, True)

    def test_by_looks_behind_deeds(self):
        nodes = [("do", "stir", 1), ("look", "see", ((0, 2), (2, 3))), ("look", "peep", ((0, 1), (-1, 1))), END]
        told = judged(sample_world(same("a", 2)), nodes)
        self.assertEqual((told[2], told[3]), ([0], []))
        self.check_endless(sample_world(same("a", 2)), nodes, True)

    def test_by_deeds(self):
        self.check_endless(sample_world(), [("do", "stir", 0)], False)
        self.check_endless(sample_world(), [("do", "shut", 1), ("do", "stir", 0)], False)

    def test_by_one_way_alone(self):
        nodes = [("do", "slip", 1), ("look", "see", ((1, 0), (2, 2))), END]
        told = judged(sample_world(both(same("a", 0), same("b", 0))), nodes)
        self.assertEqual((told[:2], sorted(set(told[3]) - {1, 2})), (("endless", (0, 0)), []))
        self.check_endless(sample_world(both(same("a", 0), same("b", 0))), nodes, False)

    def test_by_looks_and_deeds_behind_a_row_ahead(self):
        nodes = [("do", "shut", 1), ("look", "see", ((0, 2), (1, 2), (2, 4))), ("look", "peep", ((0, 3),)),
                 ("do", "stir", 1), END]
        self.check_endless(sample_world(), nodes, False)

    def test_a_long_ring(self):
        nodes = [("do", "shut" if place % 3 else "stir", (place + 1) % 200) for place in range(200)]
        told = judged(sample_world(), nodes)
        self.assertEqual(len(told[3]), 200)
        self.check_endless(sample_world(), nodes, False)


class RightTable(unittest.TestCase):
    def check(self, expected, table, world=None, plan=None):
        with self.subTest(table=table):
            self.assertIs(right_table(world or sample_world(), plan or CLIMB, table), expected)

    def test_the_told_one_in_any_order(self):
        self.check(True, CLIMB_TABLE)
        self.check(True, CLIMB_TABLE[::-1])

    def test_greater_ranks_and_gaps(self):
        self.check(True, [(node, standing, rank * 10 ** 30) for node, standing, rank in CLIMB_TABLE])
        self.check(True, [(node, standing, rank + 7) for node, standing, rank in CLIMB_TABLE])

    def test_a_first_pair_lacks(self):
        for place in range(6):
            self.check(False, CLIMB_TABLE[:place] + CLIMB_TABLE[place + 1:])
        self.check(False, [])
        self.check(False, [], sample_world(same("a", 2)), [END])

    def test_a_pair_that_comes_lacks(self):
        for place in range(6, 12):
            self.check(False, CLIMB_TABLE[:place] + CLIMB_TABLE[place + 1:])

    def test_a_pair_that_is_a_fault(self):
        first = [(0, (0, 0), 3), (0, (0, 1), 3)]
        self.check(False, [(0, (0, 0), 0), (0, (0, 1), 0)], sample_world(same("a", 0)), [END])
        self.check(False, first + [(1, (0, 0), 1), (1, (0, 1), 1)], sample_world(same("a", 0)),
                   [("do", "slip", 1), END])
        self.check(False, first, sample_world(same("a", 0)), [("look", "see", ((1, 0), (2, 0)))])

    def test_a_fault_among_further_pairs(self):
        self.check(False, CLIMB_TABLE + [(3, (1, 0), 0)])
        self.check(False, CLIMB_TABLE + [(2, (2, 0), 9)])
        lost = [("look", "see", ((2, 1),)), END]
        table = [(0, (2, 0), 1), (0, (2, 1), 1), (1, (2, 0), 0), (1, (2, 1), 0)]
        self.check(True, table, sample_world(same("a", 2)), lost)
        self.check(False, table + [(0, (1, 0), 1)], sample_world(same("a", 2)), lost)

    def test_a_rank_that_is_none(self):
        self.check(False, [(node, standing, rank - 1) for node, standing, rank in CLIMB_TABLE])
        self.check(False, CLIMB_TABLE[:-1] + [(3, (2, 1), -1)])
        self.check(False, [(node, standing, rank - 10 ** 30) for node, standing, rank in CLIMB_TABLE])
        table = [(0, (2, 0), 0), (0, (2, 1), False)]
        self.check(False, table, sample_world(same("a", 2)), [END])

    def test_a_rank_that_does_not_go_down(self):
        for place, (node, standing, rank) in enumerate(CLIMB_TABLE):
            # Greater by one is no less than what leads here; the first pairs have nothing ahead.
            changed = CLIMB_TABLE[:place] + [(node, standing, rank + 1)] + CLIMB_TABLE[place + 1:]
            self.check(node == 0, changed)
            changed[place] = (node, standing, rank - 1)
            self.check(False, changed)

    def test_going_round_has_no_ranks(self):
        for ranks in ((0, 0), (1, 0), (0, 1), (5, 5)):
            table = [(0, (0, 1), ranks[0]), (1, (0, 1), ranks[1])]
            self.check(False, table, sample_world(both(same("a", 0), same("b", 1))),
                       [("look", "see", ((0, 1),)), ("look", "peep", ((-1, 0),))])

    def test_a_pair_twice(self):
        for place, row in enumerate(CLIMB_TABLE):
            self.check(False, CLIMB_TABLE + [row])
            self.check(False, [(row[0], row[1], row[2] + 50)] + CLIMB_TABLE)
            self.check(False, CLIMB_TABLE[:place] + [row] + CLIMB_TABLE[place:])

    def test_further_pairs(self):
        world = sample_world(same("a", 1))
        needed = [(0, (1, 0), 2), (0, (1, 1), 2), (2, (1, 0), 1), (2, (1, 1), 1), (3, (2, 0), 0), (3, (2, 1), 0)]
        self.check(True, needed, world)
        self.check(True, needed + [(0, (2, 0), 1)], world)
        self.check(True, CLIMB_TABLE, world)
        self.check(False, needed + [(0, (2, 0), 0)], world)
        self.check(False, needed + [(1, (0, 0), 1)], world)
        self.check(True, needed + [(1, (0, 0), 2)], world)

    def test_pairs_at_nodes_to_which_nothing_leads(self):
        world = sample_world(same("a", 2))
        plan = [END, ("do", "up", 0), ("do", "stir", 2)]
        table = [(0, (2, 0), 0), (0, (2, 1), 0)]
        self.check(True, table, world, plan)
        self.check(True, table + [(1, (1, 0), 1)], world, plan)
        self.check(False, table + [(1, (1, 0), 0)], world, plan)
        self.check(False, table + [(2, (1, 0), 1)], world, plan)
        self.check(False, table + [(2, (1, 0), 1), (2, (0, 0), 0)], world, plan)

    def test_rows_that_are_no_pairs(self):
        for row in ((4, (2, 0), 0), (-1, (2, 0), 0), (10 ** 30, (2, 0), 0), (3, (2, 2), 0), (3, (2,), 0),
                    (3, (2, 0, 0), 0), (3, (2, -1), 0)):
            self.check(False, CLIMB_TABLE + [row])


class WorstPrice(unittest.TestCase):
    def check(self, begin, nodes, price):
        world = sample_world(begin)
        self.assertEqual(worst_price(world, plan_of(world, nodes)), price)

    def test_an_end_alone(self):
        self.check(same("a", 2), [END], 0)

    def test_deeds_and_looks(self):
        self.check(YES, CLIMB, 16)
        self.check(same("a", 1), CLIMB, 13)
        self.check(same("a", 2), CLIMB, 10)

    def test_the_greatest_of_all_ways(self):
        self.check(both(same("a", 0), same("b", 0)),
                   [("do", "slip", 1), ("look", "see", ((1, 2), (2, 3))), ("do", "up", 3), END], 18)

    def test_the_dearest_run_may_be_the_shorter_one(self):
        nodes = [("look", "see", ((0, 1), (1, 3))), ("do", "up", 2), ("do", "up", 5), ("look", "peep", ((0, 4), (-1, 4))),
                 ("do", "up", 5), END]
        self.check(both(under("a", 2), same("b", 1)), nodes, 33)

    def test_prices_of_thirty_figures(self):
        most = 10 ** 30 - 1
        world = world_of([("a", 5)], [("up", most, YES, [[("a", ("plus", A, number(1)))]])], [("see", most, A)],
                         same("a", 0), same("a", 4))
        nodes = [("do", "up", 1), ("do", "up", 2), ("do", "up", 3), ("look", "see", ((3, 4),)), ("do", "up", 5), END]
        self.assertEqual(worst_price(world, nodes), 5 * most)

    def test_refused_where_the_plan_does_not_surely_work(self):
        for nodes in ([END], [("do", "up", 0)], [("look", "see", ((0, 1), (1, 1)))] + [END], [("do", "stir", 0)],
                      [("look", "see", ((0, 0), (1, 0), (2, 0)))], CLIMB[:3] + [("do", "stir", 0)]):
            world = sample_world()
            kept = copy.deepcopy(nodes)
            with self.subTest(nodes=nodes), self.assertRaises(NotSure) as caught:
                worst_price(world, nodes)
            self.assertIs(type(caught.exception), NotSure)
            self.assertEqual((world, nodes), (sample_world(), kept))


class Owned(unittest.TestCase):
    PLANS = (CLIMB, [END], [("do", "stir", 0)], [("look", "see", ((0, 0), (1, 0), (2, 0)))],
             [("do", "stir", 1), ("do", "up", 0)])

    def test_what_was_handed_in_stays(self):
        for nodes in self.PLANS:
            world, plan, table = sample_world(), list(nodes), list(CLIMB_TABLE)
            judged(world, plan)
            right_table(world, CLIMB, table)
            self.assertEqual((world, plan, table), (sample_world(), list(nodes), CLIMB_TABLE))

    def test_what_was_told_may_be_changed_behind(self):
        world = sample_world()
        for nodes in self.PLANS:
            plan = list(nodes)
            told = judged(world, plan)
            before = copy.deepcopy(told)
            for one in told:
                if isinstance(one, list):
                    one.append("x")
            self.assertEqual(judged(world, plan), before)
            self.assertEqual((world, plan), (sample_world(), list(nodes)))

    def test_a_name_that_is_none_in_this_world(self):
        world = world_of([("a", 2)], [], [], YES, YES)
        for node in (("do", "up", 0), ("look", "see", ((0, 0), (1, 0)))):
            for ask in (lambda: judged(world, [node]), lambda: worst_price(world, [node]),
                        lambda: right_table(world, [node], [(0, (0,), 0), (0, (1,), 0)])):
                with self.assertRaises(NoName):
                    ask()


class AnotherReckoning(Checks):
    def plans(self, seed, many):
        """Chance plans, found plans, and found plans with one node changed."""
        chance = random.Random(seed)
        for world, other in chance_worlds(seed, many):
            for _ in range(4):
                yield world, other, chance_plan(chance, other, chance.randrange(1, 8), chance.random() < 0.7)
            told = found_plan(world)
            if told[0] == "plan":
                yield world, other, told[1]
                changed = list(told[1])
                place = chance.randrange(len(changed))
                if changed[place][0] == "do":
                    changed[place] = changed[place][:2] + (chance.randrange(len(changed)),)
                elif changed[place][0] == "look":
                    changed[place] = changed[place][:2] + (changed[place][2][1:],)
                yield world, other, changed

    def test_just_one_of_two_is_told(self):
        kinds = {"sure": 0, "fails": 0, "round": 0, "open": 0}
        for world, other, nodes in self.plans(16, 250):
            plan = plan_of(world, nodes)
            pairs, ranks = other.sure_sums(plan, lambda node: node[0] != "end")
            told = judged(world, plan)
            if len(ranks) == len(pairs):
                self.assertEqual(told, ("sure", sorted((node, at, rank) for (node, at), rank in ranks.items())))
                self.assertIs(right_table(world, plan, told[1]), True)
                prices = other.sure_sums(plan, other.cost_of_node)[1]
                self.assertEqual(worst_price(world, plan), max(prices[(0, at)] for at in other.first))
                kinds["sure"] += 1
                continue
            with self.assertRaises(NotSure):
                worst_price(world, plan)
            if None in pairs.values():
                end = run(world, plan, told[1], told[2])[0]
                self.assertIn(end, ("short", "need", "lost"))
                self.check_fails(world, plan, end)
                kinds["fails"] += 1
            else:
                self.check_endless(world, plan, told[3] == [])
                kinds["round" if told[3] == [] else "open"] += 1
        self.assertGreater(min(kinds.values()), 10, kinds)

    def is_right(self, other, plan, table):
        """Point 15 in other words."""
        ranks = {(node, at): rank for node, at, rank in table}
        coming = {pair: other.pairs_behind(plan, pair) for pair in ranks}
        return (len(ranks) == len(table) and all((0, at) in ranks for at in other.first)
                and None not in coming.values() and min(ranks.values(), default=0) >= 0
                and all(one in ranks and ranks[one] < ranks[pair] for pair in ranks for one in coming[pair]))

    def changed(self, chance, other, plan, table):
        """A table with one or two rows changed, left out, said twice or put in."""
        table = list(table)
        for _ in range(chance.randrange(1, 3)):
            place = chance.randrange(len(table) + 1)
            new = (chance.randrange(len(plan)), chance.choice(other.every), chance.randrange(-1, 4))
            if place == len(table) or chance.random() < 0.3:
                table.insert(place, new)
            elif chance.random() < 0.6:
                table[place] = table[place][:2] + (table[place][2] + chance.randrange(-1, 3),)
            else:
                table[place:place + 1] = [table[place]] * chance.choice([0, 0, 2])
        return table

    def test_tables_that_are_right_and_wrong(self):
        chance = random.Random(15)
        kinds = {True: 0, False: 0}
        for world, other, plan in self.plans(15, 120):
            pairs, ranks = other.sure_sums(plan, lambda node: 1)
            whole = [(node, at, ranks.get((node, at), 0)) for node, at in pairs]
            for _ in range(6):
                table = self.changed(chance, other, plan, whole)
                expected = self.is_right(other, plan, table)
                self.assertIs(right_table(world, plan, table), expected)
                kinds[expected] += 1
                if expected:
                    self.assertEqual(judged(world, plan)[0], "sure")
        self.assertGreater(min(kinds.values()), 100, kinds)


class Bounds(Checks):
    """Two hundred nodes over two hundred standings: as many pairs as may come."""

    def world(self):
        boxes = [("a", 5), ("b", 5), ("c", 2), ("d", 2), ("e", 2)]
        ways = [[("a", ("plus", A, number(1)))], [("b", ("plus", B, number(1)))], [("c", ("less", number(1), box("c")))], []]
        return world_of(boxes, [("stir", 10 ** 29, YES, ways)], [("see", 10 ** 29, A)], YES, YES)

    def test_a_plan_that_surely_works(self):
        world = self.world()
        plan = plan_of(world, [("do", "stir", place) for place in range(1, 200)] + [END])
        told = judged(world, plan)
        self.assertEqual((told[0], len(told[1])), ("sure", 40000))
        self.assertEqual((told[1][0], told[1][-1]), ((0, (0, 0, 0, 0, 0), 199), (199, (4, 4, 1, 1, 1), 0)))
        self.assertIs(right_table(world, plan, told[1]), True)
        self.assertIs(right_table(world, plan, told[1][:-1]), False)
        self.assertEqual(worst_price(world, plan), 199 * 10 ** 29)

    def test_plans_that_do_not(self):
        world = self.world()
        start = [("do", "stir", place) for place in range(1, 199)]
        forks = tuple((worth, 199) for worth in range(4))
        self.check_fails(world, start + [("look", "see", forks), END], "lost")
        self.check_endless(world, start + [("look", "see", ((4, 198),) + forks), END], True)
        self.check_endless(world, start + [("look", "see", ((4, 0),) + forks), END], False)

    def test_a_plan_of_many_looks(self):
        nodes = [("look", "see", tuple((worth, place) for worth in range(5))) for place in range(1, 400)] + [END]
        told = judged(self.world(), nodes)
        self.assertEqual((told[0], len(told[1]), told[1][0][2]), ("sure", 80000, 399))


if __name__ == "__main__":
    unittest.main()
