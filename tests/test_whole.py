"""Points 2, 3 and 4 over the whole program: just one of two is told, and what is told is let by or played."""

import copy
import random
import unittest
from fractions import Fraction

from forkplan import errors
from forkplan.alike import told_alike
from forkplan.desk import Desk
from forkplan.find import found_plan, right_numbers, right_trap, worst_value
from forkplan.judge import judged, right_table, worst_price
from forkplan.known import at_goal, behind, first_known, may_do, parts
from forkplan.means import least_mean, mean_price
from forkplan.plans import plan_of, run
from forkplan.rows import least_row, row_works
from forkplan.shorter import known_at, shorter
from forkplan.texts import read_plan, read_world, shown_plan, shown_world
from forkplan.values import what_it_is_worth
from forkplan.worlds import comes_of, shown, standings, world_of
from samples import END, YES, box, chance_plan, chance_worlds, lists_in, lock, longer_plan, maze, number, same, spans


class Checks(unittest.TestCase):
    def check_judged(self, world, plan):
        """That just one of two is told of a plan, and that it holds; tells which."""
        told = judged(world, plan)
        if told[0] == "sure":
            self.assertIs(right_table(world, plan, told[1]), True)
            self.assertLessEqual(max(rank for _, _, rank in told[1]), len(told[1]))
            for at in first_known(world):
                self.assertIn(run(world, plan, at, [0] * 3000)[0], ("goal",))
            return "sure"
        with self.assertRaises(errors.NotSure):
            worst_price(world, plan)
        # No ranks make a table of pairs right: what comes of the first ones is a fault or goes round.
        for rank in (0, 1, 3000):
            rows = [(place, at, rank) for place, known in enumerate(known_at(world, plan)) for at in known]
            self.assertIs(right_table(world, plan, rows), False)
        self.assertIn(told[1], first_known(world))
        end = run(world, plan, told[1], told[2])[0]
        if told[0] == "fails":
            self.assertIn(end, ("short", "need", "lost"))
        elif told[3] == []:
            self.assertEqual(end, "round")
        else:
            for many in (0, 1, 2, 50):
                self.assertEqual(run(world, plan, told[1], told[2] + told[3] * many)[0], "open")
        return told[0]

    def check_found(self, world):
        """That just one of two is told of a world, and that it holds; tells the plan or None."""
        told = found_plan(world)
        known = first_known(world)
        if told[0] == "trap":
            self.assertIs(right_trap(world, told[1]), True)
            self.assertIsNone(worst_value(world, known))
            self.assertIsNone(least_row(world))
            return None
        self.assertEqual(self.check_judged(world, told[1]), "sure")
        self.assertIs(right_numbers(world, told[3]), True)
        self.assertEqual((worst_price(world, told[1]), worst_value(world, known), dict_of(told[3])[tuple(known)]),
                         (told[2],) * 3)
        # A number more for the first knowledge would be told of a world in which no plan costs so little.
        more = [(there, value + (there == known) if value is not None else None) for there, value in told[3]]
        self.assertIs(right_numbers(world, more), False)
        unmet = [there for there, value in told[3] if value != 0]
        self.assertIs(right_trap(world, unmet), False)
        return told[1]

    def check_shorter(self, world, plan):
        short = shorter(world, plan)
        self.assertEqual(self.check_judged(world, short), "sure")
        self.assertLessEqual(worst_price(world, short), worst_price(world, plan))
        self.check_alike(world, plan, short)
        return short

    def check_alike(self, world, one, other):
        told = told_alike(world, one, other)
        deeds = [deed[0] for deed in world[1]]
        if told[0] == "unlike":
            rows = []
            for plan in (one, other):
                self.assertIn(run(world, plan, told[1], told[2])[0], ("open", "goal"))
                names = [name for name, _ in run(world, plan, told[1], told[2] + [0])[1] if name in deeds]
                rows.append(names)
            self.assertEqual(rows[0][:len(told[2])], rows[1][:len(told[2])])
            self.assertNotEqual(rows[0], rows[1])
            return
        chance = random.Random(len(one))
        for at in first_known(world):
            choices = [chance.randrange(4) for _ in range(300)]
            steps = [[step for step in run(world, plan, at, choices)[1] if step[0] in deeds] for plan in (one, other)]
            self.assertEqual(steps[0], steps[1])


def dict_of(numbers):
    return {tuple(known): value for known, value in numbers}


class TheWhole(Checks):
    def test_plans_of_many_kinds(self):
        chance = random.Random(41)
        kinds = {"sure": 0, "fails": 0, "endless": 0}
        for world, other in chance_worlds(41, 250):
            for _ in range(3):
                plan = plan_of(world, chance_plan(chance, other, chance.randrange(1, 10), chance.random() < 0.6))
                kind = self.check_judged(world, plan)
                kinds[kind] += 1
                self.assertEqual(kind == "sure", other.works(plan))
                if kind == "sure":
                    self.check_shorter(world, plan)
                else:
                    for ask in (shorter, lambda *two: told_alike(*two, plan), lambda *two: told_alike(*two, [END])):
                        with self.assertRaises(errors.NotSure):
                            ask(world, plan)
        self.assertGreater(min(kinds.values()), 20, kinds)

    def test_worlds_of_many_kinds(self):
        chance = random.Random(42)
        kinds = {"plan": 0, "trap": 0, "longer": 0}
        for world, other in chance_worlds(42, 250) + [(lock(), None), (maze(), None), (maze(("not", YES)), None)]:
            plan = self.check_found(world)
            kinds["trap" if plan is None else "plan"] += 1
            if plan is not None:
                short = self.check_shorter(world, plan)
                self.assertEqual(worst_price(world, short), worst_price(world, plan))
                row = least_row(world)
                if row is not None:
                    self.assertIs(row_works(world, row), True)
                    straight = [("do", name, place) for place, name in enumerate(row, 1)] + [END]
                    self.assertEqual(self.check_judged(world, straight), "sure")
                    self.assertLessEqual(worst_price(world, plan), worst_price(world, straight))
                    self.check_alike(world, plan, straight)
                if other is not None:
                    longer = longer_plan(chance, other, plan, 4)
                    if self.check_judged(world, longer) == "sure":
                        kinds["longer"] += 1
                        self.assertLessEqual(worst_price(world, plan), worst_price(world, longer))
                        self.check_shorter(world, longer)
                        self.check_alike(world, plan, longer)
        self.assertGreater(min(kinds.values()), 20, kinds)

    def test_the_least_mean(self):
        chance = random.Random(43)
        kinds = {"none": 0, "told": 0, "shorter": 0}
        for world, other in chance_worlds(43, 250, plain=True):
            weights = [chance.randrange(1, 9) for _ in other.first]
            told = least_mean(world, weights)
            plan = self.check_found(world)
            self.assertEqual(told is None, plan is None)
            if told is None:
                kinds["none"] += 1
                continue
            kinds["told"] += 1
            self.assertEqual(self.check_judged(world, told[2]), "sure")
            self.assertEqual(mean_price(world, told[2], weights), told[:2])
            short = self.check_shorter(world, told[2])
            self.assertEqual(mean_price(world, short, weights), told[:2])
            for beside in [plan] + [longer_plan(chance, other, plan, 3) for _ in range(3)]:
                if other.works(beside):
                    self.assertLessEqual(Fraction(*told[:2]), Fraction(*mean_price(world, beside, weights)))
                    kinds["shorter"] += shorter(world, beside) != beside
        self.assertGreater(min(kinds.values()), 20, kinds)

    def test_what_is_told_may_be_handed_in(self):
        for world, other in chance_worlds(44, 100):
            again = read_world(shown_world(world))
            self.assertEqual(again, world)
            told = found_plan(again)
            if told[0] == "trap":
                self.assertIs(right_trap(world, told[1]), True)
                continue
            plan = plan_of(again, read_plan(shown_plan(told[1])))
            self.assertEqual(plan, told[1])
            for known in known_at(again, shorter(again, plan)):
                self.assertIsNotNone(worst_value(again, known))
                self.assertEqual(known, sorted(set(known)))
            for known, value in told[3]:
                self.assertEqual(worst_value(again, known), value)
            row = least_row(again)
            if row is not None:
                self.assertIs(row_works(again, row), True)


class Refusals(unittest.TestCase):
    """Point 3: each refusal is of its class, straight under ForkError, and of none of the others."""

    PLAIN = ([("a", 2)], [("go", 1, YES, [[("a", number(1))]])], [("see", 1, box("a"))], YES, same("a", 1))

    def asked(self):
        world = world_of(*self.PLAIN)
        many = spans(True)
        wild = world_of([("a", 2)], [("go", 1, YES, [[], []])], [], YES, YES)
        return [
            ("NoWorld", world_of, ([], [], [], YES, YES)), ("NoName", comes_of, (world, "see", (0,))),
            ("NoName", shown, (world, "go", (0,))), ("NoName", behind, (world, [(0,)], "x")),
            ("NoName", may_do, (world, [(0,)], "x")), ("NoName", parts, (world, [(0,)], "go")),
            ("NoPlan", plan_of, (world, [])), ("NoName", plan_of, (world, [("do", "see", 0)])),
            ("NotSure", worst_price, (world, [END])), ("TooMany", found_plan, (many,)),
            ("TooMany", worst_value, (many, first_known(many))), ("NoName", row_works, (world, ["go", "x"])),
            ("TooMany", least_row, (many,)), ("NotPlain", mean_price, (wild, [END], [1, 1])),
            ("NoWeights", mean_price, (world, [END], [1])), ("NotSure", mean_price, (world, [END], [1, 1])),
            ("NotPlain", least_mean, (wild, [1, 1])), ("NoWeights", least_mean, (world, [1, 0])),
            ("NoName", what_it_is_worth, (world, "x")), ("TooMany", what_it_is_worth, (many, "set")),
            ("NotSure", shorter, (world, [END])), ("NotSure", told_alike, (world, [END], [("do", "go", 1), END])),
            ("NotSure", told_alike, (world, [("do", "go", 1), END], [END])), ("NoText", read_world, ("",)),
            ("NoWorld", read_world, ("begin yes\ngoal yes",)), ("NoText", read_plan, ("",)),
            ("NoOrder", Desk().told, ("x",)), ("NoText", Desk().told, ("find",)),
        ]

    def test_each_is_of_its_class_alone_and_changes_nothing(self):
        names = [name for name in dir(errors) if name.startswith(("No", "Too"))]
        self.assertEqual(len(names), 9)
        for name, ask, handed in self.asked():
            before = copy.deepcopy(handed)
            with self.subTest(name=name, ask=ask), self.assertRaises(errors.ForkError) as caught:
                ask(*handed)
            self.assertEqual(type(caught.exception).__name__, name)
            self.assertEqual(type(caught.exception).__bases__, (errors.ForkError,))
            self.assertEqual([other for other in names if isinstance(caught.exception, getattr(errors, other))], [name])
            self.assertEqual(handed, before)
        self.assertEqual({name for name, _, _ in self.asked()}, set(names))


class Owned(unittest.TestCase):
    """Point 2: what is told is the asker's own, and what is handed in stays as it was."""

    PLAN = [("look", "see", ((0, 1), (1, 2))), ("do", "left", 3), ("do", "right", 3), END]

    def asked(self, world):
        plain = world[:1] + ([deed[:3] + (deed[3][:1],) for deed in world[1]],) + world[2:]
        known = [(0, 0), (1, 0)]
        return [
            (standings, (world,)), (comes_of, (world, "left", (0, 0))), (first_known, (world,)),
            (behind, (world, known, "left")), (parts, (world, known, "see")), (plan_of, (world, list(self.PLAN))),
            (run, (world, list(self.PLAN), (0, 0), [0, 1])), (judged, (world, list(self.PLAN))), (found_plan, (world,)),
            (judged, (world, [END])), (judged, (world, [("do", "force", 0)])), (least_row, (world,)),
            (least_mean, (plain, [1, 2])), (known_at, (world, list(self.PLAN))), (shorter, (world, list(self.PLAN))),
            (told_alike, (world, list(self.PLAN), [("do", "force", 1), END])), (read_world, (shown_world(world),)),
            (read_plan, (shown_plan(self.PLAN),)), (at_goal, (world, known)), (worst_value, (world, known)),
        ]

    def test_told_lists_changed_behind(self):
        world = lock()
        for ask, handed in self.asked(world):
            with self.subTest(ask=ask):
                before = copy.deepcopy(handed)
                told = ask(*handed)
                kept = copy.deepcopy(told)
                self.assertEqual({id(one) for one in lists_in(told)} & {id(one) for one in lists_in(handed)}, set())
                for one in lists_in(told):
                    one.append("x")
                self.assertEqual(handed, before)
                self.assertEqual(ask(*handed), kept)

    def test_handed_lists_changed_behind(self):
        for ask, shared in self.asked(lock()):
            with self.subTest(ask=ask):
                handed = copy.deepcopy(shared)
                told = ask(*handed)
                kept = copy.deepcopy(told)
                for one in lists_in(handed):
                    one.clear()
                self.assertEqual(told, kept)


if __name__ == "__main__":
    unittest.main()
