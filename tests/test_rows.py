"""Points 2, 3 and 22: forkplan.rows."""

import copy
import itertools
import math
import random
import unittest

from forkplan.errors import NoName, TooMany
from forkplan.find import found_plan
from forkplan.judge import judged
from forkplan.rows import least_row, row_works
from forkplan.worlds import world_of
from samples import END, YES, OtherReckoning, both, box, chance_worlds, lock, maze, nested, number, same, spans, under

A, B = box("a"), box("b")
MOST = 10 ** 30 - 1


def stairs(begin=None, goal=None):
    """a is to come to 4; stir leaves it open whether it is done, so that up may no more be done near the top."""
    deeds = [
        ("up", 2, under("a", 4), [[("a", ("plus", A, number(1)))]]),
        ("leap", 3, under("a", 3), [[("a", ("plus", A, number(2)))]]),
        ("stir", 1, under("a", 4), [[], [("a", ("plus", A, number(1)))]]),
        ("top", 50, YES, [[("a", number(4))]]),
    ]
    return world_of([("a", 5), ("b", 2)], deeds, [("see", 1, A)], begin or same("a", 0), goal or same("a", 4))


def ways_to_one(deeds):
    """Boxes a and b; a deed of that name and price turns a (and may need some a), and a is to come to 3."""
    made = [(name, price, need, [[("a", number(to))]]) for name, price, need, to in deeds]
    return world_of([("a", 5), ("b", 2)], made, [], same("a", 0), same("a", 3))


class RowWorks(unittest.TestCase):
    def check(self, expected, world, row):
        with self.subTest(row=row):
            self.assertIs(row_works(world, row), expected)

    def test_rows_that_work(self):
        for row in (["up"] * 4, ["leap", "leap"], ["up", "leap", "up"], ["up", "up", "leap"], ["top"], ["up", "top"],
                    ["stir", "top"], ["stir", "stir", "leap", "top"]):
            self.check(True, stairs(), row)

    def test_the_last_knowledge_is_not_at_the_goal(self):
        for row in (["up"] * 3, ["leap"], ["leap", "up"], ["stir"], ["stir", "leap", "up"]):
            self.check(False, stairs(), row)

    def test_the_goal_at_some_of_its_standings_is_not_enough(self):
        self.check(False, stairs(goal=("not", same("a", 0))), ["stir"])
        self.check(True, stairs(goal=under("a", 2)), ["stir"])

    def test_a_deed_that_may_not_be_done_amid_the_row(self):
        self.check(False, stairs(), ["up"] * 5 + ["top"])
        self.check(False, stairs(), ["leap", "up", "leap", "top"])
        # Its need must hold at each standing that may be.
        self.check(False, stairs(), ["stir", "up", "up", "up", "up", "top"])
        self.check(False, stairs(), ["leap", "stir", "leap", "top"])
        self.check(True, stairs(), ["leap", "stir", "up", "top"])

    def test_a_first_deed_that_may_not_be_done(self):
        self.check(False, stairs(same("a", 4)), ["up", "top"])
        self.check(False, stairs(YES), ["stir", "top"])

    def test_it_may_come_by_the_goal_and_go_on(self):
        self.check(True, stairs(), ["leap", "leap", "top"])
        self.check(True, stairs(goal=("not", same("a", 1))), ["up", "up"])
        self.check(False, stairs(goal=same("a", 1)), ["up", "up"])
        self.check(False, stairs(goal=same("a", 4)), ["top", "up"])

    def test_the_row_without_names(self):
        self.check(True, stairs(same("a", 4)), [])
        self.check(True, stairs(goal=YES), [])
        self.check(False, stairs(), [])
        self.check(False, stairs(YES), [])

    def test_all_that_may_be_at_first_counts(self):
        self.check(True, stairs(under("a", 2), ("not", under("a", 3))), ["up", "up", "up"])
        self.check(False, stairs(under("a", 3), ("not", under("a", 3))), ["up", "up", "up"])

    def test_what_is_known_is_not_parted(self):
        # One standing of two comes to the goal at a time, never both.
        for row in itertools.product(["try", "flip"], repeat=4):
            self.check(False, maze(), list(row))

    def test_long_rows(self):
        deep = nested("plus", A, 6)
        deeds = [(name, 1, YES, [[("a", ("plus", A, number(1))), ("b", deep)], [("b", deep), ("c", B)]] * 2) for name in
                 ("one", "two", "three", "four", "five", "six", "seven", "eight")]
        world = world_of([("a", 5), ("b", 5), ("c", 4), ("d", 2)], deeds, [("see", 1, deep)], YES, YES)
        row = [deed[0] for deed in deeds] * 375
        self.check(True, world, row)
        self.check(False, world_of(world[0], deeds, [], YES, same("a", 0)), row)


class RowRefused(unittest.TestCase):
    def check(self, world, row):
        before = copy.deepcopy((world, row))
        with self.subTest(row=row), self.assertRaises(NoName) as caught:
            row_works(world, row)
        self.assertIs(type(caught.exception), NoName)
        self.assertEqual((world, row), before)

    def test_no_deeds_name_anywhere(self):
        for name in ("walk", "see", "a", "b", "", "Up", "up ", "tops"):
            for row in ([name], [name, "up"], ["up", name, "up"], ["leap", "leap", name], ["up"] * 30 + [name]):
                self.check(stairs(), row)

    def test_ahead_of_all_else(self):
        # Behind a deed that may not be done, and behind the goal.
        self.check(stairs(), ["up"] * 6 + ["walk"])
        self.check(stairs(same("a", 4)), ["leap", "see"])
        self.check(stairs(goal=YES), ["up", "b"])
        self.check(world_of([("a", 2)], [], [], YES, YES), ["a"])

    def test_a_name_that_a_deed_and_a_box_share_is_a_deeds(self):
        world = world_of([("a", 2)], [("a", 1, YES, [[("a", number(1))]])], [], YES, same("a", 1))
        self.assertIs(row_works(world, ["a"]), True)


class LeastRow(unittest.TestCase):
    def check(self, expected, world):
        told = least_row(world)
        self.assertEqual(told, expected)
        if expected is not None:
            self.assertIs(type(told), list)
            self.assertIs(row_works(world, told), True)

    def test_of_the_least_price(self):
        self.check(["leap", "leap"], stairs())
        self.check(["top"], stairs(YES))
        self.check(["up"], stairs(same("a", 3)))
        self.check(["top"], world_of([("a", 5)], [("up", 2, under("a", 4), [[("a", ("plus", A, number(1)))]]),
                                                  ("top", 7, YES, [[("a", number(4))]])], [], same("a", 0), same("a", 4)))

    def test_more_deeds_may_cost_less(self):
        world = world_of([("a", 5)], [("up", 3, under("a", 4), [[("a", ("plus", A, number(1)))]]),
                                      ("big", 10, YES, [[("a", number(3))]])], [], same("a", 0), same("a", 3))
        self.check(["up", "up", "up"], world)

    def test_the_first_one_by_the_alphabet(self):
        for names in (("one", "two"), ("two", "one")):
            self.check(["one"], ways_to_one([(name, 4, YES, 3) for name in names]))
        deeds = [("zip", 1, same("a", 0), 1), ("hop", 1, same("a", 0), 2), ("aim", 2, same("a", 1), 3),
                 ("nod", 2, same("a", 2), 3)]
        for turn in itertools.permutations(deeds):
            self.check(["hop", "nod"], ways_to_one(list(turn)))

    def test_a_later_name_decides_where_the_first_ones_are_alike(self):
        deeds = [("hop", 1, same("a", 0), 1), ("nod", 2, same("a", 1), 3), ("mix", 2, same("a", 1), 3)]
        for turn in itertools.permutations(deeds):
            self.check(["hop", "mix"], ways_to_one(list(turn)))

    def test_names_that_begin_alike(self):
        # Name by name go stands ahead of goa, though goz stands behind goab.
        deeds = [("go", 1, same("a", 0), 1), ("z", 1, same("a", 1), 3), ("goa", 1, same("a", 0), 2),
                 ("b", 1, same("a", 2), 3)]
        for turn in itertools.permutations(deeds):
            self.check(["go", "z"], ways_to_one(list(turn)))
        self.check(["a"], ways_to_one([("ab", 2, YES, 3), ("aa", 2, YES, 3), ("a", 2, YES, 3), ("b", 2, YES, 3)]))

    def test_the_price_goes_ahead_of_the_alphabet(self):
        self.check(["zip"], ways_to_one([("aim", 5, YES, 3), ("zip", 4, YES, 3), ("bow", 5, YES, 3)]))

    def test_of_one_price_the_longer_may_stand_ahead(self):
        steps = [("tip", 1, same("a", 0), 1), ("tap", 1, same("a", 1), 3)]
        self.check(["tip", "tap"], ways_to_one(steps + [("zig", 2, YES, 3)]))
        self.check(["big"], ways_to_one(steps + [("big", 2, YES, 3)]))
        self.check(["tipa"], ways_to_one([("tipb", 1, same("a", 0), 1), steps[1], ("tipa", 2, YES, 3)]))
        self.check(["tip", "tap"], ways_to_one(steps + [("tipa", 2, YES, 3)]))

    def test_the_beginning_of_another_row_that_works(self):
        world = world_of([("a", 5)], [("go", 1, under("a", 4), [[("a", ("plus", A, number(1)))]])], [], same("a", 0),
                         ("not", under("a", 2)))
        self.check(["go", "go"], world)
        self.assertIs(row_works(world, ["go", "go", "go"]), True)

    def test_none_where_a_plan_with_looks_works(self):
        world = world_of(*lock()[:1], lock()[1][:2], *lock()[2:])
        self.assertEqual(found_plan(world)[0], "plan")
        self.check(None, world)
        self.check(["force"], lock())

    def test_none_where_none_works(self):
        self.check(None, maze())
        self.check(None, world_of([("a", 2)], [], [("see", 1, A)], YES, same("a", 1)))
        self.check(None, stairs(goal=("not", YES)))

    def test_at_the_goal(self):
        self.check([], stairs(same("a", 4)))
        self.check([], stairs(goal=YES))
        self.check([], world_of([("a", 2)], [], [], YES, YES))

    def test_prices_of_thirty_figures(self):
        deeds = [("up", MOST // 3, under("a", 3), [[("a", ("plus", A, number(1)))]]),
                 ("big", MOST, under("a", 3), [[("a", number(3))]])]
        world = world_of([("a", 5)], deeds, [], same("a", 0), same("a", 3))
        self.check(["big"], world)
        dear = [deeds[0], ("big", MOST + 1, under("a", 3), [[("a", number(3))]])]
        self.check(["up", "up", "up"], world_of([("a", 5)], dear, [], same("a", 0), same("a", 3)))

    def test_what_is_told_is_the_askers_own(self):
        for world in (stairs(), stairs(goal=YES)):
            before = copy.deepcopy(world)
            told = least_row(world)
            expected = list(told)
            told.append("x")
            told[0] = "y"
            self.assertEqual(least_row(world), expected)
            self.assertEqual(world, before)

    def test_a_told_row_may_be_handed_in_and_stays(self):
        row = least_row(stairs())
        self.assertIs(row_works(stairs(), row), True)
        self.assertEqual(row, ["leap", "leap"])


class Many(unittest.TestCase):
    def with_look(self, world, goal=None):
        """The world with a look whose parts are no spans: so more knowledges come by it."""
        return world_of(world[0], world[1], [("see", 1, ("plus", A, B))], world[3], goal or world[4])

    def test_two_thousand_are_not_too_many(self):
        self.assertEqual(least_row(spans(False)), ["upa"] * 3 + ["upb"] * 3 + ["upc"] * 3)

    def test_one_more_is(self):
        world = spans(True)
        with self.assertRaises(TooMany) as caught:
            least_row(world)
        self.assertIs(type(caught.exception), TooMany)
        self.assertEqual(world, spans(True))

    def test_looks_do_not_count(self):
        world = self.with_look(spans(False))
        with self.assertRaises(TooMany):
            found_plan(world)
        self.assertEqual(least_row(world), ["upa"] * 3 + ["upb"] * 3 + ["upc"] * 3)
        with self.assertRaises(TooMany):
            least_row(self.with_look(spans(True)))

    def test_nothing_comes_of_knowledge_at_the_goal(self):
        self.assertEqual(least_row(self.with_look(spans(True), YES)), [])
        self.assertEqual(least_row(self.with_look(spans(True), same("d", 1))), ["set"])

    def test_row_works_does_not_mind(self):
        self.assertIs(row_works(spans(True), ["upa"] * 3 + ["upb"] * 3 + ["upc"] * 3), True)
        self.assertIs(row_works(spans(True), ["upa"] * 3 + ["mayb"] * 3 + ["upc"] * 3), False)


class AnotherReckoning(unittest.TestCase):
    def known_behind(self, other, row):
        """The knowledge behind a row, or None where a deed of it may not be done."""
        known = frozenset(other.first)
        for name in row:
            if not known <= other.need[name]:
                return None
            known = other.behind(known, name)
        return known

    def works(self, other, row):
        known = self.known_behind(other, row)
        return known is not None and known <= other.goal

    def least(self, other):
        """(price, row) of the least one, by rounds: the best row of at most so many deeds from each knowledge."""
        best = {known: (0, ()) if known <= other.goal else (math.inf, ()) for known in other.all_knowledges(other.first)}
        while True:
            new = dict(best)
            for known, (price, _) in best.items():
                for name in other.need if price else ():
                    if known <= other.need[name]:
                        behind = best[other.behind(known, name)]
                        new[known] = min(new[known], (other.price[name] + behind[0], (name,) + behind[1]))
            if new == best:
                return best[frozenset(other.first)]
            best = new

    def chance_stairs(self, chance):
        """A world in which a is to go up and most rows that work are long; many are of one price."""
        names = chance.sample(["a", "b", "go", "goa", "gob", "z", "up", "upa"], 5)
        deeds = []
        for name in names:
            step = ("less" if chance.random() < 0.2 else "plus", A, number(chance.randrange(1, 4)))
            way = [("a", step)] + [("b", number(chance.randrange(2)))] * (chance.random() < 0.4)
            need = chance.choice([YES, under("a", 3), same("b", 0), same("b", 1), ("not", same("a", 0))])
            deeds.append((name, chance.randrange(1, 4), need, [way, []] if chance.random() < 0.1 else [way]))
        begin = chance.choice([both(same("a", 0), same("b", 0)), same("a", 0), both(under("a", 2), same("b", 0))])
        return world_of([("a", 5), ("b", 2)], deeds, [("see", 1, A)], begin, chance.choice([same("a", 4), under("b", 1)]))

    def all_worlds(self):
        chance = random.Random(25)
        stairs_made = [self.chance_stairs(chance) for _ in range(300)]
        return chance_worlds(22, 300) + [(world, OtherReckoning(world)) for world in stairs_made]

    def test_least_rows(self):
        kinds = {"none": 0, "only by looks": 0, "long": 0, "at once": 0, "short": 0}
        for world, other in self.all_worlds():
            price, row = self.least(other)
            if price == math.inf:
                self.assertIsNone(least_row(world))
                kinds["only by looks" if found_plan(world)[0] == "plan" else "none"] += 1
            else:
                self.assertEqual(least_row(world), list(row))
                kinds[["at once", "short", "short", "long"][min(3, len(row))]] += 1
        self.assertGreater(min(kinds.values()), 10, kinds)

    def test_against_all_rows(self):
        met = 0
        for world, other in self.all_worlds():
            rows = [row for many in range(4) for row in itertools.product(other.need, repeat=many)]
            working = sorted((sum(other.price[name] for name in row), row) for row in rows if self.works(other, row))
            told = least_row(world)
            if told is not None and len(told) < 4:
                self.assertEqual(told, list(working[0][1]))
                met += len(working) > 1 and working[0][0] == working[1][0]
            elif working:
                self.assertLessEqual(sum(other.price[name] for name in told), working[0][0])
        self.assertGreater(met, 20)

    def test_rows_that_work_and_do_not(self):
        chance = random.Random(24)
        kinds = {True: 0, False: 0}
        for world, other in chance_worlds(24, 400):
            for _ in range(6):
                row = [chance.choice(list(other.need)) for _ in range(chance.randrange(6))] if other.need else []
                expected = self.works(other, row)
                self.assertIs(row_works(world, row), expected)
                kinds[expected] += 1
                # A row is a plan that does its deeds one behind the other and ends.
                nodes = [("do", name, place + 1) for place, name in enumerate(row)] + [END]
                self.assertEqual(judged(world, nodes)[0] == "sure", expected)
        self.assertGreater(min(kinds.values()), 100, kinds)


if __name__ == "__main__":
    unittest.main()
