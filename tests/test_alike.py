"""Points 2, 3, 4 and 28: forkplan.alike."""

import copy
import math
import random
import unittest

from forkplan.alike import told_alike
from forkplan.errors import NotSure
from forkplan.find import found_plan
from forkplan.known import first_known
from forkplan.plans import plan_of, run
from forkplan.shorter import shorter
from forkplan.worlds import world_of
from samples import END, YES, OtherReckoning, box, longer_plan, number, same, sure_plans, under

A, B = box("a"), box("b")


def stairs(begin=YES):
    """a is to come to 2, in steps or by a leap; b is a hidden switch, which rest leaves as it is or turns."""
    deeds = [
        ("up", 3, under("a", 2), [[("a", ("plus", A, number(1)))]]),
        ("leap", 4, YES, [[("a", number(2))]]),
        ("rest", 1, YES, [[], [("b", ("less", number(1), B))], []]),
        ("roll", 4, YES, [[("a", number(2))], [("a", number(1))], [("a", number(0))]]),
    ]
    looks = [("see", 10, A), ("peep", 20, ("less", number(0), B)), ("dull", 30, number(7))]
    return world_of([("a", 3), ("b", 2)], deeds, looks, begin, same("a", 2))


def see(*numbers):
    """A look at a, with a fork for 0 and so on."""
    return ("look", "see", tuple(enumerate(numbers)))


def peep(where_0, where_1):
    return ("look", "peep", ((0, where_0), (-1, where_1)))


CLIMB = [see(1, 2, 3), ("do", "up", 2), ("do", "up", 3), END]
# The same in a ring.
RING = [see(1, 1, 2), ("do", "up", 0), END]
LEAP = [("do", "leap", 1), END]
AT_0, AT_1, AT_2 = same("a", 0), same("a", 1), same("a", 2)


class Checks(unittest.TestCase):
    def check_alike(self, world, one, other):
        for two in ((one, other), (other, one)):
            before = copy.deepcopy((world, two))
            self.assertEqual(told_alike(world, *two), ("alike",))
            self.assertEqual((world, two), before)

    def check_unlike(self, world, one, other, many):
        """That so many choices are told, in a run in which the plans part: it is played with both."""
        for two in ((one, other), (other, one)):
            before = copy.deepcopy((world, two))
            told = told_alike(world, *two)
            self.assertEqual((type(told), len(told), told[0], type(told[2])), (tuple, 3, "unlike", list))
            self.check_parting(world, two, told[1], told[2])
            self.assertEqual(len(told[2]), many)
            self.assertEqual((world, two), before)

    def check_parting(self, world, two, standing, choices):
        deeds = [deed[0] for deed in world[1]]
        self.assertIn(standing, first_known(world))
        self.assertTrue(all(type(choice) is int and choice >= 0 for choice in choices))
        behind = []
        done = []
        for plan in two:
            end, steps, _ = run(world, plan, standing, choices)
            self.assertIn(end, ("open", "goal"))
            done.append([step for step in steps if step[0] in deeds])
            longer = run(world, plan, standing, choices + [0])[1]
            behind.append(([step[0] for step in longer if step[0] in deeds] + ["ended"])[len(choices)])
        self.assertEqual(len(done[0]), len(choices))
        self.assertEqual(done[0], done[1])
        self.assertNotEqual(behind[0], behind[1])


class Alike(Checks):
    def test_a_plan_with_itself(self):
        for plan in (CLIMB, RING, LEAP):
            self.check_alike(stairs(), plan, plan)
            self.check_alike(stairs(), plan, list(plan))
        self.check_alike(stairs(AT_2), [END], [END])

    def test_the_same_deeds_in_other_nodes(self):
        self.check_alike(stairs(), CLIMB, RING)
        self.check_alike(stairs(AT_1), CLIMB, [("do", "up", 1), END])
        self.check_alike(stairs(AT_0), CLIMB, [("do", "up", 2), END, ("do", "up", 1)])
        self.check_alike(stairs(AT_2), CLIMB, [END])

    def test_whatever_they_look_at(self):
        looks = [("look", "dull", ((7, 1),)), peep(2, 3), see(4, 4, 4), see(4, 4, 4), ("do", "leap", 5), peep(6, 6), END]
        self.check_alike(stairs(), LEAP, looks)
        self.check_alike(stairs(), [see(0, 0, 0)[:2] + (((0, 1), (1, 2), (2, 3)),)] + [("do", "leap", 4)] * 3 + [END], LEAP)

    def test_forks_that_do_the_same(self):
        one = [peep(1, 3), ("do", "rest", 2), ("do", "leap", 5), ("do", "rest", 4), ("do", "leap", 5), END]
        self.check_alike(stairs(), one, [("do", "rest", 1), peep(2, 2), ("do", "leap", 3), END])

    def test_what_would_part_only_where_nothing_comes(self):
        one = [see(1, 2, 3), ("do", "up", 2), ("do", "up", 3), END]
        other = [see(1, 2, 3), ("do", "leap", 3), ("do", "up", 3), END]
        self.check_alike(stairs(AT_1), one, other)
        self.check_unlike(stairs(), one, other, 0)
        # Behind the second way of roll one looks, in the other way too: so it does not matter what is behind.
        rolled = [("do", "roll", 1), see(2, 3, 4), ("do", "leap", 4), ("do", "up", 4), END]
        self.check_alike(stairs(), rolled, rolled[:1] + [see(2, 5, 4)] + rolled[2:] + [("do", "up", 6), END])

    def test_a_plan_and_its_shorter_one_where_no_deed_is_left_out(self):
        long = [("look", "dull", ((7, 1),)), see(2, 3, 4), ("do", "up", 5), ("do", "up", 4), END, see(0, 6, 0), ("do", "up", 7),
                END]
        short = shorter(stairs(), long)
        self.assertLess(len(short), len(long))
        self.check_alike(stairs(), long, short)


class Unlike(Checks):
    def test_at_the_first_deed(self):
        self.check_unlike(stairs(AT_0), CLIMB, LEAP, 0)
        self.check_unlike(stairs(AT_1), CLIMB, LEAP, 0)

    def test_an_end_beside_a_deed(self):
        self.check_unlike(stairs(AT_2), [END], LEAP, 0)
        self.check_unlike(stairs(AT_2), CLIMB, LEAP, 0)
        self.check_unlike(stairs(AT_0), LEAP, [("do", "leap", 1), ("do", "rest", 2), END], 1)
        self.check_unlike(stairs(), LEAP, [("do", "leap", 1), peep(2, 3), ("do", "leap", 3), END], 1)

    def test_the_standing_is_the_one_in_which_they_part(self):
        one = [see(1, 1, 2), ("do", "leap", 2), END]
        other = [see(1, 3, 2), ("do", "leap", 2), END, ("do", "up", 2)]
        told = told_alike(stairs(), one, other)
        self.assertEqual((told[0], told[1][0], told[2]), ("unlike", 1, []))
        self.check_unlike(stairs(), one, other, 0)
        self.check_alike(stairs(AT_0), one, other)
        peeping = [peep(1, 2), ("do", "leap", 4), ("do", "rest", 3), ("do", "leap", 4), END]
        told = told_alike(stairs(AT_0), LEAP, peeping)
        self.assertEqual(told, ("unlike", (0, 1), []))

    def test_behind_one_way_alone(self):
        one = [("do", "roll", 1), see(2, 3, 4), ("do", "leap", 4), ("do", "up", 4), END]
        other = [("do", "roll", 1), see(2, 3, 4), ("do", "leap", 4), ("do", "leap", 4), END]
        told = told_alike(stairs(), one, other)
        self.assertEqual((told[0], [choice % 3 for choice in told[2]]), ("unlike", [1]))
        self.check_unlike(stairs(), one, other, 1)

    def test_with_the_fewest_choices(self):
        # They part behind four deeds where b is 0 and behind two where it is 1.
        rests = [("do", "rest", place) for place in range(1, 5)]
        world = world_of(stairs()[0], stairs()[1][:2] + [("rest", 1, YES, [[]])], stairs()[2], AT_0, AT_2)
        one = rests + [("do", "leap", 5), END]
        other = [peep(1, 5), ("do", "rest", 2), ("do", "rest", 3), ("do", "rest", 4), ("do", "rest", 8),
                 ("do", "rest", 6), ("do", "rest", 7), ("do", "leap", 9), ("do", "up", 10), END, ("do", "leap", 9)]
        told = told_alike(world, one, other)
        self.assertEqual((told[1], len(told[2])), ((0, 1), 2))
        self.check_unlike(world, one, other, 2)

    def test_with_the_fewest_choices_behind_several_ways(self):
        # Both differ behind the second way of the second rest, and behind any way of the third one.
        one = [("do", "rest", 1), ("do", "rest", 2), ("do", "rest", 3), ("do", "leap", 4), END]
        other = [("do", "rest", 1), ("do", "rest", 2), ("do", "rest", 3), ("do", "roll", 4), ("do", "leap", 5), END]
        self.check_unlike(stairs(), one, other, 3)
        turned = [peep(1, 6), ("do", "rest", 2), peep(3, 5), ("do", "rest", 4), ("do", "rest", 5), ("do", "leap", 9),
                  ("do", "rest", 7), ("do", "rest", 8), ("do", "rest", 5), END]
        told = told_alike(stairs(), one, turned)
        self.assertEqual((told[1][1], [choice % 3 for choice in told[2]]), (0, [1]))
        self.check_unlike(stairs(), one, turned, 1)

    def test_a_plan_and_its_shorter_one_where_a_deed_is_left_out(self):
        world = world_of([("a", 2)], [("go", 1, YES, [[("a", number(1))]])], [], YES, same("a", 1))
        long = [("do", "go", 1), ("do", "go", 2), END]
        self.assertEqual(shorter(world, long), [("do", "go", 1), END])
        self.check_unlike(world, long, shorter(world, long), 1)

    def test_standings_of_the_first_knowledge_alone(self):
        for begin in (AT_0, AT_1, same("b", 1), ("both", AT_1, same("b", 1))):
            self.check_unlike(stairs(begin), CLIMB, LEAP, 0)


class Refused(unittest.TestCase):
    def test_where_the_one_the_other_or_both_do_not_surely_work(self):
        bad = ([END], [("do", "up", 1), END], [see(1, 1), ("do", "leap", 2), END], [("do", "rest", 0)],
               [see(0, 0, 1), END], [("look", "dull", ((7, 0),))], [("do", "rest", 1), ("do", "rest", 0), END])
        pairs = [(LEAP, plan) for plan in bad] + [(plan, LEAP) for plan in bad] + [(plan, plan) for plan in bad]
        for one, other in pairs + [(bad[0], bad[3]), (bad[3], bad[0])]:
            world, two = stairs(), (list(one), list(other))
            with self.subTest(one=one, other=other), self.assertRaises(NotSure) as caught:
                told_alike(world, *two)
            self.assertIs(type(caught.exception), NotSure)
            self.assertEqual((world, two), (stairs(), (one, other)))

    def test_also_where_they_part_ahead_of_what_fails(self):
        with self.assertRaises(NotSure):
            told_alike(stairs(), LEAP, [("do", "rest", 1), END])


class Owned(unittest.TestCase):
    def test_what_was_told_may_be_changed_behind(self):
        world, one, other = stairs(), list(LEAP), [("do", "leap", 1), ("do", "rest", 2), END]
        told = told_alike(world, one, other)
        before = copy.deepcopy(told)
        told[2].append("x")
        self.assertEqual(told_alike(world, one, other), before)
        self.assertEqual((world, one), (stairs(), LEAP))


class AnotherReckoning(Checks):
    def deeds_from(self, other, plan, at, place=0):
        """All that a plan does from a standing: () of an end, else the deed and what is done behind each way."""
        node = plan[place]
        while node[0] == "look":
            node = plan[dict(node[2])[other.shows[node[1]][at]]]
        if node[0] == "end":
            return ()
        return (node[1], tuple(self.deeds_from(other, plan, new, node[2]) for new in other.comes[node[1]][at]))

    def fewest(self, one, other):
        """The least number of choices behind which two such trees part."""
        if one[:1] != other[:1]:
            return 0
        return 1 + min([self.fewest(*two) for two in zip(one[1], other[1])], default=math.inf) if one else math.inf

    def check_by_trees(self, world, other, one, two):
        """Holds what is told against the trees, and tells the fewest choices."""
        fewest = min(self.fewest(self.deeds_from(other, one, at), self.deeds_from(other, two, at)) for at in other.first)
        if fewest == math.inf:
            self.check_alike(world, one, two)
        else:
            self.check_unlike(world, one, two, fewest)
        return fewest

    def test_small_worlds(self):
        chance = random.Random(28)
        told = []
        for world, other, plan in sure_plans(29, 300, 3):
            beside = plan
            for _ in range(3):
                longer = longer_plan(chance, other, beside, chance.randrange(1, 4))
                beside = longer if other.works(longer) else beside
            if chance.random() < 0.2 and found_plan(world)[0] == "plan":
                beside = found_plan(world)[1]
            if self.depth(other, plan) < 7 and self.depth(other, beside) < 7:
                told.append(self.check_by_trees(world, other, plan, beside))
        self.assertGreater(min(told.count(fewest) for fewest in (0, 1, math.inf)), 10)

    def depth(self, other, plan):
        sums = other.sure_sums(plan, lambda node: node[0] == "do")[1]
        return max(sums[(0, at)] for at in other.first)

    def grown(self, chance, nodes, deeds, looks):
        """Puts nodes behind others that look and do, so many deeds deep at most, and tells the first one's number."""
        place = len(nodes)
        nodes.append(None)
        if looks and chance.random() < 0.4:
            name, worths = chance.choice([("see", (0, 1, 2)), ("peep", (0, -1)), ("dull", (7,))])
            nodes[place] = ("look", name, tuple((worth, self.grown(chance, nodes, deeds, looks - 1)) for worth in worths))
        elif deeds and chance.random() < 0.9:
            name = chance.choice(["rest", "rest", "rest", "leap", "roll"])
            nodes[place] = ("do", name, self.grown(chance, nodes, deeds - 1, 1))
        else:
            nodes[place] = ("do", "leap", len(nodes))
            nodes.append(END)
        return place

    def test_deep_plans(self):
        chance = random.Random(31)
        world = stairs(same("a", 0))
        other = OtherReckoning(world)
        told = []
        for _ in range(250):
            one = []
            self.grown(chance, one, 5, 2)
            two = list(one)
            if chance.random() < 0.8:
                # One leap, rest or roll becomes another one; a leap comes behind it anyway, if it is not the last one.
                place = chance.choice([place for place, node in enumerate(one) if node[0] == "do"])
                last = one[place][2] if one[one[place][2]] == END else None
                two[place] = ("do", chance.choice(["rest", "roll"]), one[place][2] if last is None else len(two))
                two += [("do", "leap", last)] * (last is not None)
            two = longer_plan(chance, other, two, 2)
            if other.works(one) and other.works(two):
                told.append(self.check_by_trees(world, other, one, two))
        self.assertGreater(min(told.count(fewest) for fewest in (0, 1, 2, 3, math.inf)), 10)
        self.assertGreater(max(fewest for fewest in told if fewest < math.inf), 3)

    def test_a_plan_and_its_shorter_one(self):
        kinds = {"alike": 0, "unlike": 0}
        for world, other, plan in sure_plans(30, 300):
            known = other.known_at(plan)
            idle = any(plan[place][0] == "do" and all(new == at for at in there for new in other.comes[plan[place][1]][at])
                       for place, there in known.items())
            kinds["unlike" if idle else "alike"] += 1
            self.assertEqual(told_alike(world, plan, shorter(world, plan))[0], "unlike" if idle else "alike")
        self.assertGreater(min(kinds.values()), 25, kinds)


class Bounds(Checks):
    """Two hundred nodes over two hundred standings."""

    def world(self):
        boxes = [("a", 5), ("b", 5), ("c", 2), ("d", 2), ("e", 2)]
        ways = [[("a", ("plus", A, number(1)))], [("b", ("plus", B, number(1)))], [("c", ("less", number(1), box("c")))], []]
        return world_of(boxes, [("stir", 10 ** 29, YES, ways), ("mix", 1, YES, ways[:2])], [("see", 10 ** 29, A)], YES, YES)

    def test_long_plans(self):
        plan = [("do", "stir", place) for place in range(1, 200)] + [END]
        self.check_alike(self.world(), plan, list(plan))
        self.check_unlike(self.world(), plan, plan[:198] + [("do", "mix", 199), END], 198)

    def test_forks_into_rows_of_their_own(self):
        plan = [("look", "see", tuple((worth, 1 + 39 * worth) for worth in range(5)))]
        for worth in range(5):
            plan += [("do", "stir", place) for place in range(len(plan) + 1, len(plan) + 39)] + [END]
        straight = [("do", "stir", place) for place in range(1, 39)] + [END]
        self.check_alike(self.world(), plan_of(self.world(), plan), straight)
        self.check_unlike(self.world(), plan[:-2] + [("do", "mix", 195), END], straight, 37)


if __name__ == "__main__":
    unittest.main()
