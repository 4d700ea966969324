"""Points 2, 3, 4, 23 and 24: forkplan.means."""

import copy
import itertools
import math
import random
import unittest
from fractions import Fraction

from forkplan.errors import NotPlain, NotSure, NoWeights, TooMany
from forkplan.find import found_plan
from forkplan.judge import judged, right_table, worst_price
from forkplan.known import first_known
from forkplan.means import least_mean, mean_price
from forkplan.plans import plan_of, run
from forkplan.worlds import world_of
from samples import (END, YES, OtherReckoning, all_nodes, both, box, chance_plan, chance_worlds, lists_in, lock, maze,
                     number, same, spans, under)

A, B = box("a"), box("b")
MOST = 10 ** 30 - 1
# For lock: looks, and turns the door as it is to be turned.
LOOKING = [("look", "see", ((0, 1), (1, 2))), ("do", "left", 3), ("do", "right", 3), END]
FORCING = [("do", "force", 1), END]


def doors(left=1, right=9, see=1, force=6):
    """As lock, but with all prices to be chosen."""
    world = lock(see, force)
    deeds = [(name, price) + deed[2:] for deed, (name, price) in
             zip(world[1], (("left", left), ("right", right), ("force", force)))]
    return world_of(world[0], deeds, *world[2:])


def twin(world):
    """The world with one deed more, of two ways that are alike, which none of its plans does."""
    return world_of(world[0], world[1] + [("twin", 1, YES, [[], []])], *world[2:])


def pairs_of_two():
    """Two standings, b being 0 or 1, each with its own a, c and d; where e is 1 nothing but swap is done, at one place.

    There come 25 pairs of a, 10 of c and 4 of d, with e of 0 or 1: 2000 knowledges. Swap leads to the same standings,
    but their weights are swapped.
    """
    deeds = []
    for name, need in (("a", YES), ("c", under("c", 3)), ("d", YES)):
        for kind, by in (("up", number(1)), ("may", B)):
            deeds.append((kind + name, 1, both(same("e", 0), need), [[(name, ("plus", box(name), by))]]))
    deeds.append(("set", 1, same("e", 0), [[("e", number(1))]]))
    corner = both(same("e", 1), same("a", 4), same("c", 3), same("d", 0))
    deeds.append(("swap", 1, corner, [[("b", ("less", number(1), B))]]))
    first = both(*[same(name, 0) for name in "acde"])
    goal = both(same("e", 1), same("a", 1), same("c", 1), same("d", 1))
    return world_of([("a", 5), ("b", 2), ("c", 4), ("d", 2), ("e", 2)], deeds, [], first, goal)


def lock_open():
    """A world that begins at the goal."""
    return world_of([("a", 2)], [], [("see", 1, A)], same("a", 1), same("a", 1))


class Refusals(unittest.TestCase):
    def check_refused(self, refusal, ask, *handed):
        before = copy.deepcopy(handed)
        with self.subTest(refusal=refusal, handed=handed), self.assertRaises(refusal) as caught:
            ask(*handed)
        self.assertIs(type(caught.exception), refusal)
        self.assertEqual(handed, before)


class MeanPrice(Refusals):
    def check(self, expected, world, nodes, weights):
        told = mean_price(world, plan_of(world, nodes), weights)
        self.assertEqual((told, type(told), [type(one) for one in told]), (expected, tuple, [int, int]))

    def test_deeds_and_looks(self):
        self.check((7, 2), lock(), LOOKING, [1, 1])
        self.check((15, 4), lock(), LOOKING, [1, 3])
        self.check((13, 4), lock(), LOOKING, [3, 1])
        self.check((9, 1), lock(), FORCING, [3, 1])
        twice = [("look", "see", ((0, 2), (1, 1))), ("look", "see", ((1, 2),)), ("do", "force", 3), END]
        self.check((21, 2), lock(), twice, [1, 1])

    def test_lowest_terms(self):
        self.check((7, 2), lock(), LOOKING, [2, 2])
        self.check((7, 2), lock(), LOOKING, [12, 12])
        self.check((15, 4), lock(), LOOKING, [5, 15])
        self.check((10, 3), lock(), LOOKING, [4, 2])
        self.check((9, 1), lock(), FORCING, [35, 77])

    def test_weights_of_thirty_figures(self):
        self.check((7, 2), lock(), LOOKING, [MOST, MOST])
        self.check((3 * MOST + 4, MOST + 1), lock(), LOOKING, [MOST, 1])
        self.check((3 + 4 * MOST, MOST + 1), lock(), LOOKING, [1, MOST])
        self.check((7 * MOST - 4, 2 * MOST - 1), lock(), LOOKING, [MOST, MOST - 1])
        dear = doors(MOST, MOST - 1, MOST - 2, 1)
        over, under_it = MOST * (2 * MOST - 2) + (MOST - 1) * (2 * MOST - 3), 2 * MOST - 1
        common = math.gcd(over, under_it)
        self.check((over // common, under_it // common), dear, LOOKING, [MOST, MOST - 1])

    def test_nothing_done(self):
        world = world_of([("a", 3)], [("go", 1, YES, [[]])], [("see", 1, A)], YES, YES)
        self.check((0, 1), world, [END], [4, 5, 6])
        self.check((0, 1), world, [END], [1, 1, 1])
        # What some runs do and others don't.
        self.check((6, 5), world, [("look", "see", ((0, 1), (1, 2), (2, 2))), END, ("do", "go", 1)], [12, 1, 2])
        self.check((0, 1), world_of([("a", 2)], [], [], same("a", 1), same("a", 1)), [END], [MOST])

    def test_a_weight_for_each_standing_in_their_order(self):
        world = world_of([("a", 3), ("b", 2)], [("up", 10, under("a", 2), [[("a", ("plus", A, number(1)))]])],
                         [("see", 1, A)], ("not", both(same("a", 1), same("b", 0))), same("a", 2))
        climb = [("look", "see", ((0, 1), (1, 2), (2, 3))), ("do", "up", 2), ("do", "up", 3), END]
        weights = [1, 100, 10000, 1000000, 100000000]
        self.assertEqual(first_known(world), [(0, 0), (0, 1), (1, 1), (2, 0), (2, 1)])
        prices = [21, 21, 11, 1, 1]
        expected = Fraction(sum(weight * price for weight, price in zip(weights, prices)), sum(weights))
        self.check((expected.numerator, expected.denominator), world, climb, weights)
        self.check((11, 1), world, climb, [1] * 5)

    def test_a_loop_that_ends(self):
        # The same nodes come again and again, each time paid anew.
        world = world_of([("a", 5)], [("up", 3, under("a", 4), [[("a", ("plus", A, number(1)))]])], [("see", 2, A)], YES,
                         same("a", 4))
        nodes = [("look", "see", ((0, 1), (1, 1), (2, 1), (3, 1), (4, 2))), ("do", "up", 0), END]
        self.check((12, 1), world, nodes, [1] * 5)
        self.check((17, 1), world, nodes, [6, 1, 1, 1, 1])

    def test_worst_and_mean(self):
        self.assertEqual(worst_price(lock(), LOOKING), 4)
        for weights in ([1, 1], [1, 9], [1, MOST]):
            over, under_it = mean_price(lock(), LOOKING, weights)
            self.assertLess(over, 4 * under_it)

    def test_not_plain(self):
        two = twin(lock())
        self.assertEqual(judged(two, LOOKING)[0], "sure")
        self.check_refused(NotPlain, mean_price, two, LOOKING, [1, 1])
        self.check_refused(NotPlain, mean_price, two, [("do", "twin", 1), ("do", "force", 2), END], [1, 1])
        self.check_refused(NotPlain, mean_price, world_of([("a", 2)], [("go", 1, YES, [[], []])], [], YES, YES), [END], [1, 1])

    def test_no_weights(self):
        for weights in ([], [1], [1, 1, 1], [1] * 6, [0, 1], [1, 0], [-1, 1], [5, -MOST], [0, 0], [0], [1, 1, 0]):
            self.check_refused(NoWeights, mean_price, lock(), LOOKING, weights)

    def test_not_sure(self):
        wrong = (
            [END], [("do", "left", 1), END], [("do", "right", 1), END], [("do", "left", 1), ("do", "left", 2), END],
            [("look", "see", ((0, 1),)), ("do", "force", 2), END], [("look", "see", ((0, 0), (1, 0)))],
            [("do", "force", 0)], [("do", "force", 1), ("look", "see", ((0, 1), (1, 2))), END])
        for nodes in wrong:
            self.check_refused(NotSure, mean_price, lock(), nodes, [1, 1])

    def test_which_refusal_goes_ahead(self):
        two = twin(lock())
        self.check_refused(NotPlain, mean_price, two, LOOKING, [1])
        self.check_refused(NotPlain, mean_price, two, [END], [1, 1])
        self.check_refused(NotPlain, mean_price, two, [END], [0, 1])
        self.check_refused(NoWeights, mean_price, lock(), [END], [1])
        self.check_refused(NoWeights, mean_price, lock(), [("do", "force", 0)], [1, 1, 1])
        self.check_refused(NoWeights, mean_price, lock(), [("do", "right", 1), END], [1, 0])

    def test_more_knowledges_than_two_thousand_do_not_matter(self):
        world = pairs_of_two()
        plan = [("do", "upa", 1), ("do", "upc", 2), ("do", "upd", 3), ("do", "set", 4), END]
        self.check((4, 1), world, plan, [1, 2])


class LeastMeanChecks(Refusals):
    def check(self, mean, world, weights):
        told = least_mean(world, weights)
        self.assertEqual((type(told), len(told)), (tuple, 3))
        over, under_it, plan = told
        self.assertEqual((type(over), type(under_it), type(plan)), (int, int, list))
        self.assertEqual(math.gcd(over, under_it), 1)
        self.assertGreaterEqual(under_it, 1)
        self.assertEqual(Fraction(over, under_it), mean)
        self.assertEqual(plan_of(world, plan), plan)
        kind, table = judged(world, plan)
        self.assertEqual(kind, "sure")
        self.assertIs(right_table(world, plan, table), True)
        self.assertEqual(mean_price(world, plan, weights), (over, under_it))
        return plan


class LeastMean(LeastMeanChecks):
    def test_the_weights_decide(self):
        # Looks first, and turns left or forces the door; or forces it at once.
        plan = self.check(Fraction(9, 2), doors(), [1, 1])
        self.assertEqual([run(doors(), plan, at, [0])[1] for at in first_known(doors())],
                         [[("see", 0), ("left", 0)], [("see", 1), ("force", 0)]])
        self.assertEqual(self.check(6, doors(), [1, 9]), FORCING)
        self.check(Fraction(2 * 9 + 7, 10), doors(), [9, 1])
        self.check(Fraction(2 + 7 * 3, 4), doors(), [1, 3])
        self.check(6, doors(), [1, 4])
        self.check(6, doors(), [1, 5])

    def test_another_plan_than_that_of_the_least_worst_price(self):
        world = doors()
        kind, worst_plan, price, _ = found_plan(world)
        self.assertEqual((price, worst_plan), (6, FORCING))
        plan = self.check(Fraction(2 * 99 + 7, 100), world, [99, 1])
        self.assertEqual(worst_price(world, plan), 7)
        self.assertEqual(mean_price(world, worst_plan, [99, 1]), (6, 1))

    def test_a_look_is_paid_by_all_that_look(self):
        for see in range(1, 9):
            world = doors(1, 2, see, 6)
            self.check(min(6, see + Fraction(3, 2)), world, [1, 1])
            self.check(min(6, see + Fraction(1 * 7 + 2, 8)), world, [7, 1])

    def test_lowest_terms(self):
        self.assertEqual(least_mean(doors(), [2, 2])[:2], (9, 2))
        self.assertEqual(least_mean(doors(), [10, 90])[:2], (6, 1))
        self.assertEqual(least_mean(doors(1, 1), [30, 50])[:2], (2, 1))

    def test_weights_and_prices_of_thirty_figures(self):
        self.check(Fraction(2 * MOST + 7 * (MOST - 1), 2 * MOST - 1), doors(), [MOST, MOST - 1])
        self.check(6, doors(), [1, MOST])
        self.check(2 + Fraction(5, MOST + 1), doors(), [MOST, 1])
        dear = doors(MOST - 5, MOST, MOST - 3, 3 * MOST)
        self.check(Fraction((2 * MOST - 8) * MOST + (2 * MOST - 3) * (MOST - 7), 2 * MOST - 7), dear, [MOST, MOST - 7])

    def test_only_the_share_of_the_weights_matters(self):
        for weights in ([1, 1], [1, 2], [3, 1], [1, 4]):
            means = [least_mean(doors(), [weight * times for weight in weights])[:2] for times in (1, 2, 30, MOST // 4)]
            self.assertEqual(means, means[:1] * 4)

    def merging(self, drop=1):
        """Where a is 0 the door (c, 1 is open) can be opened as b tells; a is dropped to 0 whatever it was."""
        deeds = [("drop", drop, YES, [[("a", number(0))]]),
                 ("left", 2, both(same("a", 0), same("b", 0)), [[("c", number(1))]]),
                 ("right", 5, both(same("a", 0), same("b", 1)), [[("c", number(1))]]),
                 ("force", 8, same("a", 0), [[("c", number(1))]]),
                 ("kick", 60, YES, [[("c", number(1))]])]
        return world_of([("a", 2), ("b", 2), ("c", 2)], deeds, [("see", 1, B), ("peep", 1, A)], same("c", 0), same("c", 1))

    def test_weights_come_together_behind_a_deed(self):
        # Dropped and seen by all, left by those of 1 and 3, right by those of 2 and 4.
        self.check(Fraction(10 + 10 + 2 * 4 + 5 * 6, 10), self.merging(), [1, 2, 3, 4])
        self.check(Fraction(2 * 106 + 2 * 4 + 5 * 102, 106), self.merging(), [1, 2, 3, 100])
        self.check(Fraction(2 * 112 + 2 * 2 + 5 * 110, 112), self.merging(), [1, 10, 1, 100])

    def test_where_it_is_dear_they_look_whether_it_is_to_be_done(self):
        # Those with an a of 0, which weigh 100 and 2, do not drop it.
        plan = self.check(Fraction(2 * 105 + 9 * 3 + 2 * 101 + 5 * 4, 105), self.merging(9), [100, 2, 1, 2])
        self.assertNotIn(("drop", 0), run(self.merging(9), plan, (0, 1, 0), [0, 0, 0])[1])
        self.assertIn(("drop", 0), run(self.merging(9), plan, (1, 1, 0), [0, 0, 0])[1])

    def test_what_came_together_outweighs_what_is_alone(self):
        # An a of 0 and one of 2 come to 0, those of 1 and 3 to 2, whose door is the dear one.
        deeds = [("join", 1, same("b", 0), [[("a", ("plus", A, A)), ("b", number(1))]]),
                 ("left", 1, both(same("b", 1), same("a", 0)), [[("b", number(2))]]),
                 ("right", 30, both(same("b", 1), same("a", 2)), [[("b", number(2))]]),
                 ("force", 12, same("b", 1), [[("b", number(2))]])]
        world = world_of([("a", 4), ("b", 3)], deeds, [("see", 4, A)], same("b", 0), same("b", 2))
        self.check(1 + 4 + Fraction(1 * 9 + 12 * 2, 11), world, [4, 1, 5, 1])
        self.check(1 + 12, world, [1, 4, 1, 5])

    def test_at_the_goal(self):
        world = world_of([("a", 2)], [("go", 1, YES, [[]])], [("see", 1, A)], YES, YES)
        self.assertEqual(least_mean(world, [3, 5]), (0, 1, [END]))
        self.assertEqual(least_mean(world, [MOST, MOST]), (0, 1, [END]))
        self.assertEqual(least_mean(lock_open(), [7]), (0, 1, [END]))

    def test_some_are_at_the_goal_at_first(self):
        world = world_of([("a", 3)], [("up", 4, under("a", 2), [[("a", ("plus", A, number(1)))]])], [("see", 1, A)],
                         YES, same("a", 2))
        self.check(Fraction(3 * 9 + 2 * 5 + 95 * 1, 100), world, [3, 2, 95])

    def test_none_works(self):
        self.assertIsNone(least_mean(maze(), [1, 1]))
        self.assertIsNone(least_mean(maze(("not", YES)), [1, MOST]))
        self.assertIsNone(least_mean(world_of([("a", 2)], [], [], YES, same("a", 1)), [1, 1]))
        self.assertIsNone(least_mean(world_of([("a", 2)], [], [("see", 1, A)], YES, same("a", 1)), [1, 1]))

    def test_a_plan_is_to_work_for_the_lightest_too(self):
        blocked = world_of([("a", 3)], [("go", 1, same("a", 1), [[("a", number(2))]])], [("see", 1, A)], YES, same("a", 2))
        self.assertIsNone(least_mean(blocked, [1, MOST, MOST]))
        self.assertIsNone(least_mean(blocked, [1, 1, 1]))

    def test_not_plain(self):
        self.check_refused(NotPlain, least_mean, twin(lock()), [1, 1])
        self.check_refused(NotPlain, least_mean, world_of([("a", 2)], [("go", 1, YES, [[], []])], [], YES, YES), [1, 1])
        self.check_refused(NotPlain, least_mean, world_of([("a", 2)], [("go", 1, same("a", 9), [[], [], []])], [], YES, YES),
                           [1, 1])

    def test_no_weights(self):
        for weights in ([], [1], [1, 1, 1], [1] * 6, [0, 1], [1, 0], [-1, 1], [5, -MOST], [0, 0], [0], [1, 1, 0]):
            self.check_refused(NoWeights, least_mean, lock(), weights)
            self.check_refused(NoWeights, least_mean, maze(), weights)
        self.check_refused(NoWeights, least_mean, lock_open(), [])
        self.check_refused(NoWeights, least_mean, lock_open(), [0])

    def test_which_refusal_goes_ahead(self):
        self.check_refused(NotPlain, least_mean, twin(lock()), [1])
        self.check_refused(NotPlain, least_mean, twin(lock()), [0, 0])
        self.check_refused(NotPlain, least_mean, spans(True), [1])
        self.check_refused(NotPlain, least_mean, spans(True), [])
        self.check_refused(NoWeights, least_mean, pairs_of_two(), [1])
        self.check_refused(NoWeights, least_mean, pairs_of_two(), [2, 0])
        self.check_refused(NoWeights, least_mean, pairs_of_two(), [1, 2, 3])


class Many(LeastMeanChecks):
    def test_two_thousand_are_not_too_many(self):
        self.assertEqual(len(OtherReckoning(pairs_of_two()).all_knowledges(first_known(pairs_of_two()))), 2000)
        plan = self.check(4, pairs_of_two(), [1, 1])
        self.assertEqual(len(plan), 5)
        self.check(4, pairs_of_two(), [MOST, MOST])

    def test_one_more_by_its_weights_is(self):
        for weights in ([1, 2], [2, 1], [MOST, MOST - 1]):
            self.check_refused(TooMany, least_mean, pairs_of_two(), weights)
        self.assertEqual(found_plan(pairs_of_two())[2], 4)

    def test_nothing_comes_of_knowledge_at_the_goal(self):
        boxes, deeds, looks, begin, goal = pairs_of_two()
        self.assertEqual(least_mean(world_of(boxes, deeds, looks, begin, same("e", 0)), [1, 2]), (0, 1, [END]))
        self.check(1, world_of(boxes, deeds, looks, begin, same("e", 1)), [1, 2])

    def test_looks_count_too(self):
        boxes, deeds, looks, begin, goal = pairs_of_two()
        self.check_refused(TooMany, least_mean, world_of(boxes, deeds, [("see", 1, B)], begin, goal), [1, 1])
        self.check(4, world_of(boxes, deeds, [("dull", 1, number(3)), ("peep", 1, box("e"))], begin, goal), [1, 1])

    def test_standings_alone_and_come_together_are_two(self):
        # A single standing that is known may weigh what any one of the first ones weighs, or several together.
        deeds = [("drop" + name, 1, YES, [[(name, number(0))]]) for name in "abc"]
        deeds += [("up" + name, 1, YES, [[(name, ("plus", box(name), number(1)))]]) for name in "abc"]
        looks = [("see" + name, 1, box(name)) for name in "abc"]
        world = world_of([("a", 5), ("b", 5), ("c", 4)], deeds, looks, YES, ("not", YES))
        self.assertEqual(found_plan(world)[0], "trap")
        self.assertLessEqual(len(found_plan(world)[1]), 200)
        self.assertIsNone(least_mean(world, [1] * 100))
        self.check_refused(TooMany, least_mean, world, [10 ** place for place in range(30)] + list(range(1, 71)))

    def test_two_hundred_standings(self):
        boxes = [("a", 5), ("b", 5), ("c", 2), ("d", 2), ("e", 2)]
        deeds = [("up" + name, 3 + size, ("not", same(name, 0)), [[(name, ("plus", box(name), number(1)))]])
                 for name, size in boxes]
        deeds += [("all", 41, YES, [[(name, number(0)) for name in "abcd"]]), ("end", 25, YES, [[("e", number(0))]])]
        looks = [("see" + name, 1 + size, box(name)) for name, size in boxes]
        world = world_of(boxes, deeds, looks, YES, both(*[same(name, 0) for name in "abcde"]))
        self.assertEqual(len(first_known(world)), 200)
        self.check_refused(TooMany, least_mean, world, list(range(1, 201)))
        few = world_of(boxes, deeds[5:], looks[:2] + looks[4:], YES, world[4])
        over, under_it, plan = least_mean(few, [MOST - place for place in range(200)])
        self.assertEqual(mean_price(few, plan, [MOST - place for place in range(200)]), (over, under_it))
        self.assertLess(over, 66 * under_it)


class Owned(unittest.TestCase):
    WORLDS = ((lock, [1, 1]), (doors, [9, 1]), (lock_open, [3]))

    def test_all_lists_are_new(self):
        for made, weights in self.WORLDS:
            world = made()
            lists = lists_in([least_mean(world, weights), least_mean(world, weights)]) + lists_in(world) + [weights]
            self.assertEqual(len({id(one) for one in lists}), len(lists))

    def test_what_was_told_may_be_changed_behind(self):
        for made, weights in self.WORLDS:
            world = made()
            told = least_mean(world, weights)
            before = copy.deepcopy(told)
            told[2].append("x")
            told[2][0] = "y"
            self.assertEqual(least_mean(world, weights), before)

    def test_what_was_handed_in_stays(self):
        world, plan, weights = lock(), copy.deepcopy(LOOKING), [3, 5]
        mean_price(world, plan, weights)
        least_mean(world, weights)
        self.assertEqual((world, plan, weights), (lock(), LOOKING, [3, 5]))

    def test_what_was_handed_in_may_be_changed_behind(self):
        world, weights = doors(), [9, 1]
        told = least_mean(world, weights)
        before = copy.deepcopy(told)
        weights[0] = 5
        world[1].clear()
        self.assertEqual(told, before)


class AnotherReckoning(LeastMeanChecks):
    def least(self, other, weights):
        """The least sum of weighed prices, by rounds, over what is known of each first standing: where it is by now."""
        weight_of = dict(zip(other.first, weights))
        first = frozenset((at, at) for at in other.first)
        steps = {}
        new = [first]
        while new:
            state = new.pop()
            if state not in steps:
                steps[state] = [] if {at for _, at in state} <= other.goal else self.steps(other, state)
                new += [one for _, coming in steps[state] for one in coming]
        values = {state: 0 if {at for _, at in state} <= other.goal else math.inf for state in steps}
        while True:
            better = dict(values)
            for state, there in steps.items():
                total = sum(weight_of[start] for start, _ in state)
                costs = [price * total + sum(values[one] for one in coming) for price, coming in there]
                better[state] = min(costs + [values[state]])
            if better == values:
                return values[first]
            values = better

    def steps(self, other, state):
        """(price, states that come) of each deed that may be done and each look."""
        told = []
        for name, need in other.need.items():
            if {at for _, at in state} <= need:
                told.append((other.price[name], [frozenset((start, other.comes[name][at][0]) for start, at in state)]))
        for name, shows in other.shows.items():
            told.append((other.price[name], [frozenset(one for one in state if shows[one[1]] == worth)
                                             for worth in {shows[at] for _, at in state}]))
        return [step for step in told if step[1] != [state]]

    def chance_weights(self, chance, other):
        return [chance.choice([1, 1, 2, 3, 10, 50, chance.randrange(1, 10 ** 30)]) for _ in other.first]

    def test_least_means(self):
        chance = random.Random(24)
        kinds = {"none": 0, "plan": 0, "looking": 0, "another plan": 0, "long": 0, "at once": 0, "merging": 0}
        for world, other in chance_worlds(24, 500, plain=True):
            weights = self.chance_weights(chance, other)
            least = self.least(other, weights)
            if least == math.inf:
                self.assertIsNone(least_mean(world, weights))
                self.assertEqual(found_plan(world)[0], "trap")
                kinds["none"] += 1
                continue
            plan = self.check(Fraction(least, sum(weights)), world, weights)
            worst = mean_price(world, found_plan(world)[1], weights)
            kinds["plan"] += 1
            kinds["looking"] += any(node[0] == "look" for node in plan)
            kinds["another plan"] += Fraction(*worst) > Fraction(least, sum(weights))
            kinds["long"] += len(plan) > 4
            kinds["at once"] += least == 0
            ends = {run(world, plan, at, [0] * 50)[2] for at in other.first}
            kinds["merging"] += len(ends) < len(other.first)
        self.assertGreater(min(kinds.values()), 10, kinds)

    def test_no_small_plan_has_a_lesser_mean(self):
        chance = random.Random(4)
        kinds = {"plan": 0, "none": 0, "met": 0}
        for world, other in chance_worlds(4, 400, plain=True):
            nodes = all_nodes(other, 3)
            if len(nodes) > 13 or not other.need or set(other.first) <= other.goal:
                continue
            weights = self.chance_weights(chance, other)
            told = least_mean(world, weights)
            means = self.means(other, itertools.product(nodes, repeat=3), weights)
            if told is None:
                self.assertEqual(means, [])
                kinds["none"] += 1
            elif means:
                kinds["plan"] += 1
                self.assertLessEqual(Fraction(*told[:2]), min(means))
                if len(told[2]) <= 3:
                    self.assertEqual(Fraction(*told[:2]), min(means))
                    kinds["met"] += 1
        self.assertGreater(min(kinds.values()), 5, kinds)

    def means(self, other, plans, weights):
        sums = [other.sure_sums(list(plan), other.cost_of_node) for plan in plans]
        return [self.mean(other, sure, weights) for pairs, sure in sums if len(pairs) == len(sure)]

    def mean(self, other, sure, weights):
        return Fraction(sum(weight * sure[(0, at)] for weight, at in zip(weights, other.first)), sum(weights))

    def test_mean_prices_of_chance_plans(self):
        chance = random.Random(23)
        kinds = {"sure": 0, "not": 0}
        for world, other in chance_worlds(23, 400, plain=True):
            for _ in range(6):
                plan = chance_plan(chance, other, chance.randrange(1, 6), chance.random() < 0.7)
                weights = self.chance_weights(chance, other)
                pairs, sure = other.sure_sums(plan, other.cost_of_node)
                if len(pairs) == len(sure):
                    mean = self.mean(other, sure, weights)
                    self.assertEqual(mean_price(world, plan, weights), (mean.numerator, mean.denominator))
                    kinds["sure"] += 1
                else:
                    self.check_refused(NotSure, mean_price, world, plan, weights)
                    kinds["not"] += 1
        self.assertGreater(min(kinds.values()), 100, kinds)


if __name__ == "__main__":
    unittest.main()
