"""Points 2, 3, 30 and 31: forkplan.desk."""

import unittest

from forkplan.desk import Desk
from forkplan.errors import NoName, NoOrder, NoPlan, NotSure, NoText, NoWorld, TooMany
from forkplan.find import found_plan
from forkplan.judge import worst_price
from forkplan.rows import least_row
from forkplan.shorter import shorter
from forkplan.texts import read_plan, shown_plan, shown_world
from forkplan.values import what_it_is_worth
from forkplan.worlds import world_of
from samples import END, YES, box, chance_worlds, lock, maze, number, same, spans, sure_plans, under

A = box("a")
MOST = 10 ** 30 - 1
ASKING = ("judge", "find", "row", "short", "worth see", "worth go", "show")
WANTING_A_PLAN = ("judge", "short", "show")
LOCK_PLAN = ["look see 0:1 1:2", "do left 3", "do right 3", "end"]


def desk_with(world, plan=()):
    """A desk that was told a world, or rows of one, and rows of a plan."""
    desk = Desk()
    for row in shown_world(world).split("\n") if isinstance(world, tuple) else world:
        desk.told("world " + row)
    for row in plan:
        desk.told("plan " + row)
    return desk


def steps(begin=YES):
    """a is to come to 3; wait changes nothing."""
    up = [[("a", ("plus", A, number(1)))]]
    return world_of([("a", 4)], [("up", 2, under("a", 3), up), ("wait", 1, YES, [[]])], [("see", 5, A)], begin,
                    same("a", 3))


STEPS_PLAN = ["look see 0:1 1:1 2:1 3:2", "do up 0", "end"]


class Checks(unittest.TestCase):
    def check(self, desk, *told):
        """That a desk answers orders as told, one behind the other."""
        for order, answer in told:
            with self.subTest(order=order):
                given = desk.told(order)
                self.assertEqual((given, type(given)), (answer, str))

    def refused(self, refusal, desk, *orders):
        """That orders are refused, and that the desk stays as it was."""
        for order in orders:
            before = self.state(desk)
            with self.subTest(order=order):
                with self.assertRaises(refusal) as caught:
                    desk.told(order)
                self.assertIs(type(caught.exception), refusal)
                self.assertEqual(self.state(desk), before)

    def state(self, desk):
        """What a desk answers to orders that change nothing."""
        answers = []
        for order in ("show", "judge", "row", "worth see"):
            try:
                answers.append(desk.told(order))
            except ValueError as refusal:
                answers.append(type(refusal))
        return answers


class Rows(Checks):
    def test_rows_of_a_world_and_of_a_plan(self):
        self.check(Desk(), ("world box a 2", "rows 1"), ("world begin yes", "rows 2"), ("plan end", "nodes 1"),
                   ("world goal yes", "rows 3"), ("plan end", "nodes 2"), ("judge", "sure at most 0"), ("show", "end\nend"))

    def test_any_text_behind_the_blank(self):
        desk = Desk()
        texts = ["", " ", "  ", "x", " box a 2", "box a 2 ", "world", "plan", "clear", "judge", "\t", "Great Letters", "\r",
                 "a\tb", "~!@#$", "x" * 4000, "world box a 2", "plan end", "0"]
        for place, text in enumerate(texts, 1):
            self.check(desk, ("world " + text, f"rows {place}"))
        for place, text in enumerate(texts, 1):
            self.check(desk, ("plan " + text, f"nodes {place}"))

    def test_what_it_writes_is_looked_at_when_it_is_wanted(self):
        desk = desk_with(["box a 2", "nonsense"])
        self.refused(NoText, desk, "find", "judge")
        desk = desk_with(steps(), ["nonsense", "end"])
        self.check(desk, ("row", "none"), ("worth see", "11 none"), ("plan more", "nodes 3"), ("find", "plan for 11"))

    def test_clear(self):
        desk = desk_with(lock(), LOCK_PLAN)
        self.check(desk, ("judge", "sure at most 4"), ("clear", "cleared"))
        self.refused(NoText, desk, *ASKING)
        self.check(desk, ("clear", "cleared"), ("world box a 2", "rows 1"), ("plan end", "nodes 1"), ("clear", "cleared"),
                   ("plan end", "nodes 1"), ("world box b 2", "rows 1"), ("world begin yes", "rows 2"),
                   ("world goal yes", "rows 3"), ("judge", "sure at most 0"), ("show", "end"))

    def test_clear_puts_both_away(self):
        desk = desk_with(lock(), LOCK_PLAN)
        desk.told("clear")
        for row in shown_world(lock()).split("\n"):
            desk.told("world " + row)
        self.refused(NoText, desk, *WANTING_A_PLAN)
        self.check(desk, ("row", "force"))


class Answers(Checks):
    def test_judge(self):
        self.check(desk_with(lock(), LOCK_PLAN), ("judge", "sure at most 4"), ("judge", "sure at most 4"))
        self.check(desk_with(lock(), ["do force 1", "end"]), ("judge", "sure at most 9"))
        self.check(desk_with(steps(), STEPS_PLAN), ("judge", "sure at most 26"))

    def test_judge_of_plans_that_fail(self):
        for plan in (["end"], ["do left 1", "end"], ["look see 0:1", "end"], ["do right 1", "end"]):
            self.check(desk_with(lock(), plan), ("judge", "fails"))

    def test_judge_of_endless_plans(self):
        for plan in (["do force 0"], ["look see 0:0 1:0"], ["do force 1", "look see 0:0 1:2", "end"]):
            self.check(desk_with(lock(), plan), ("judge", "fails"))

    def test_judge_leaves_the_plan_as_it_is(self):
        desk = desk_with(steps(), STEPS_PLAN + ["do wait 3"])
        self.check(desk, ("judge", "sure at most 26"), ("show", "\n".join(STEPS_PLAN + ["do wait 3"])))

    def test_find(self):
        desk = desk_with(lock())
        self.check(desk, ("find", "plan for 4"), ("judge", "sure at most 4"), ("show", shown_plan(found_plan(lock())[1])))
        self.check(desk, ("find", "plan for 4"), ("show", shown_plan(found_plan(lock())[1])))

    def test_find_at_the_goal(self):
        desk = desk_with(["box a 2", "begin yes", "goal yes"], ["nonsense"])
        self.check(desk, ("find", "plan for 0"), ("show", "end"), ("row", "nothing"))

    def test_rows_told_behind_find_are_put_behind_its_plan(self):
        desk = desk_with(lock(), ["end", "end"])
        self.check(desk, ("find", "plan for 4"), ("plan do force 3", "nodes 5"), ("plan end", "nodes 6"),
                   ("judge", "sure at most 4"), ("short", "nodes 6 to 4"))

    def test_find_in_the_place_of_the_plan_so_far(self):
        desk = desk_with(lock(), ["do force 1", "end"])
        self.check(desk, ("judge", "sure at most 9"), ("find", "plan for 4"), ("judge", "sure at most 4"))

    def test_trap_leaves_the_plan_as_it_is(self):
        desk = desk_with(maze(), ["do try 1", "end"])
        self.check(desk, ("find", "trap"), ("show", "do try 1\nend"), ("judge", "fails"), ("plan end", "nodes 3"))
        desk = desk_with(maze())
        self.check(desk, ("find", "trap"))
        self.refused(NoText, desk, "show")

    def test_row(self):
        self.check(desk_with(lock()), ("row", "force"))
        self.check(desk_with(steps(same("a", 0))), ("row", "up up up"))
        self.check(desk_with(steps(same("a", 3))), ("row", "nothing"))
        self.check(desk_with(steps()), ("row", "none"))
        self.check(desk_with(maze()), ("row", "none"))

    def test_short(self):
        desk = desk_with(steps(same("a", 2)), STEPS_PLAN)
        self.check(desk, ("judge", "sure at most 12"), ("short", "nodes 3 to 3"),
                   ("show", "look see 2:1 3:2\ndo up 0\nend"), ("judge", "sure at most 12"), ("short", "nodes 3 to 3"))
        desk = desk_with(steps(same("a", 2)), ["do wait 4", "end", "do up 1", "end", "look see 0:0 1:0 2:2"])
        self.check(desk, ("short", "nodes 5 to 2"), ("show", "do up 1\nend"), ("judge", "sure at most 2"),
                   ("short", "nodes 2 to 2"))

    def test_rows_told_behind_short_are_put_behind_its_plan(self):
        desk = desk_with(steps(same("a", 2)), ["do wait 1", "do up 2", "end"])
        self.check(desk, ("short", "nodes 3 to 2"), ("plan do wait 1", "nodes 3"), ("show", "do up 1\nend\ndo wait 1"),
                   ("short", "nodes 3 to 2"), ("show", "do up 1\nend"))

    def test_worth(self):
        desk = desk_with(lock())
        self.check(desk, ("worth see", "4 9"), ("worth left", "4 9"), ("worth force", "4 4"))
        locked = world_of(lock()[0], lock()[1][:2], *lock()[2:])
        self.check(desk_with(locked), ("worth see", "4 none"), ("worth right", "4 none"))
        self.check(desk_with(maze()), ("worth try", "none none"), ("worth dull", "none none"))
        self.check(desk_with(steps(same("a", 3))), ("worth up", "0 0"))

    def test_worth_of_words_of_other_orders(self):
        deeds = [(name, 1, YES, [[("a", number(1))]]) for name in ("worth", "find", "none")]
        desk = desk_with(world_of([("a", 2)], deeds, [("world", 1, A)], YES, same("a", 1)))
        self.check(desk, *[("worth " + name, "1 1") for name in ("worth", "find", "none", "world")])
        self.check(desk, ("row", "find"))

    def test_show(self):
        desk = desk_with(steps(), ["do wait 1"] + STEPS_PLAN)
        self.check(desk, ("show", "do wait 1\n" + "\n".join(STEPS_PLAN)))
        self.check(desk_with(lock(), ["look see 1:0 0:0 -5:0"]), ("show", "look see 1:0 0:0 -5:0"))

    def test_great_prices(self):
        deeds = [("up", MOST, under("a", 3), [[("a", ("plus", A, number(1)))]])]
        desk = desk_with(world_of([("a", 4)], deeds, [("see", MOST, A)], same("a", 0), same("a", 3)))
        self.check(desk, ("find", f"plan for {3 * MOST}"), ("judge", f"sure at most {3 * MOST}"),
                   ("worth up", f"{3 * MOST} none"), ("worth see", f"{3 * MOST} {3 * MOST}"))

    def test_as_the_functions_tell(self):
        for world, other, plan in sure_plans(301, 150):
            desk = desk_with(world, shown_plan(plan).split("\n"))
            short = shorter(world, plan)
            row = least_row(world)
            self.check(desk, ("judge", f"sure at most {worst_price(world, plan)}"), ("show", shown_plan(plan)),
                       ("short", f"nodes {len(plan)} to {len(short)}"), ("show", shown_plan(short)),
                       ("row", "none" if row is None else " ".join(row) or "nothing"))
            for name in other.price:
                values = ["none" if value is None else str(value) for value in what_it_is_worth(world, name)]
                self.check(desk, ("worth " + name, " ".join(values)))
            self.check(desk, ("find", f"plan for {found_plan(world)[2]}"), ("show", shown_plan(found_plan(world)[1])))

    def test_worlds_of_both_kinds(self):
        kinds = {"trap": 0, "plan": 0}
        for world, _ in chance_worlds(302, 100):
            told = found_plan(world)
            kinds[told[0]] += 1
            desk = desk_with(world)
            self.check(desk, ("find", "trap" if told[0] == "trap" else f"plan for {told[2]}"))
            if told[0] == "plan":
                self.assertEqual(read_plan(desk.told("show")), told[1])
        self.assertGreater(min(kinds.values()), 10, kinds)


class NoOrders(Checks):
    ORDERS = ("", " ", "world", "plan", "worlds box a 2", "World box a 2", "WORLD box a 2", " world box a 2", "world\tbox a 2",
              "worldbox a 2", "world\n", "world \n", "world box a 2\n", "world box\na 2", "world \nbox a 2", "plan\n", "plan \n",
              "plan end\n", "plan end\nend", "Plan end", " plan end", "plans end", "plan\tend", "\nplan end", "\nworld x",
              "clear ", " clear", "Clear", "clear\n", "clears", "clear both", "cleared", "judge ", " judge", "Judge", "judge\n",
              "judge plan", "judged", "judge\t", "find ", " find", "Find", "find\n", "find plan", "found", "\nfind", "row ",
              " row", "Row", "row\n", "rows", "row up", "short ", " short", "Short", "short\n", "shorter", "short plan", "show ",
              " show", "Show", "show\n", "shown", "show plan", "worth", "worth ", "worth  see", "worth see ", " worth see",
              "worth see left", "worth See", "worth see\n", "worth abcdefghi", "worth s1", "worth\tsee", "worth see,", "worths see",
              "worth -", "worth 1", "Worth see", "worth se e", "worth\nsee", "nonsense", "box a 2", "end", "help", "\n", "\t", "?",
              "judge\nfind", "clear\nclear")

    def test_rows_that_are_none(self):
        for desk in (Desk(), desk_with(lock(), LOCK_PLAN), desk_with(["nonsense"], ["nonsense"]), desk_with(maze())):
            self.refused(NoOrder, desk, *self.ORDERS)

    def test_ahead_of_all_else(self):
        # Of the same orders without what is wrong with them other things are refused.
        desk = desk_with(["box a 9", "begin yes", "goal yes"], ["do go 7"])
        self.refused(NoWorld, desk, *ASKING)
        self.refused(NoOrder, desk, *[order + " " for order in ASKING], *[order.upper() for order in ASKING])

    def test_nothing_is_put_behind_the_rows(self):
        desk = Desk()
        self.refused(NoOrder, desk, "world x\n", "plan x\n", "world", "plan")
        self.check(desk, ("world x", "rows 1"), ("plan x", "nodes 1"))


class Refused(Checks):
    def test_no_world_is_written(self):
        for rows in ([], [""], ["nonsense"], ["box a 2", "begin yes"], ["box a 2", "begin yes", "goal yes", ""],
                     ["box a 2", "", "begin yes", "goal yes"], ["begin yes", "box a 2", "goal yes"],
                     ["box  a 2", "begin yes", "goal yes"], [" box a 2", "begin yes", "goal yes"]):
            for plan in ([], ["end"], ["nonsense"], ["do go 7"]):
                self.refused(NoText, desk_with(rows, plan), *ASKING)

    def test_the_world_is_none(self):
        for rows in (["begin yes", "goal yes"], ["box a 9", "begin yes", "goal yes"],
                     ["box a 2", "deed go 1", "begin yes", "goal yes"], ["box a 2", "begin a = 3", "goal yes"]):
            for plan in ([], ["end"], ["nonsense"], ["do go 7"]):
                self.refused(NoWorld, desk_with(rows, plan), *ASKING)

    def test_no_plan_is_written(self):
        for plan in ([], [""], ["nonsense"], ["end", ""], ["", "end"], ["end "], ["do force 01", "end"], ["do walk 9", "ends"],
                     ["Do force 1", "end"], ["look see 0:1 1:-1", "end"]):
            desk = desk_with(lock(), plan)
            self.refused(NoText, desk, *WANTING_A_PLAN)
            self.check(desk, ("row", "force"), ("worth see", "4 9"))

    def test_the_plan_is_none(self):
        for plan in (["do force 1"], ["do force 7", "end"], ["look see 0:1 0:1", "end"], ["look see 0:2", "end"],
                     ["do walk 2", "end"], ["do walk 1", "look see 1:0 1:0"], ["do force " + "9" * 3000], ["do force " + "9" * 5000]):
            self.refused(NoPlan, desk_with(lock(), plan), *WANTING_A_PLAN)

    def test_names_in_a_plan(self):
        for plan in (["do walk 0"], ["end", "do see 0"], ["look left 0:1", "end"], ["look walk"], ["do yes 0"]):
            self.refused(NoName, desk_with(lock(), plan), *WANTING_A_PLAN)

    def test_find_row_and_worth_do_not_want_a_plan(self):
        for plan in ([], ["nonsense"], ["do force 7"], ["do walk 0"]):
            desk = desk_with(lock(), plan)
            self.check(desk, ("row", "force"), ("worth see", "4 9"), ("find", "plan for 4"))
            self.check(desk, ("judge", "sure at most 4"))

    def test_what_the_points_refuse(self):
        desk = desk_with(lock(), ["do left 1", "end"])
        self.refused(NotSure, desk, "short")
        self.refused(NotSure, desk_with(lock(), ["do force 0"]), "short")
        self.refused(NoName, desk, "worth walk", "worth a", "worth b", "worth abcdefgh")
        desk = desk_with(spans(True), ["end"])
        for order in ("find", "row", "worth upa"):
            with self.assertRaises(TooMany) as caught:
                desk.told(order)
            self.assertIs(type(caught.exception), TooMany)
        with self.assertRaises(NoName):
            desk.told("worth walk")
        self.check(desk, ("show", "end"), ("judge", "fails"), ("plan end", "nodes 2"))

    def test_a_refused_find_or_short_leaves_the_plan(self):
        desk = desk_with(spans(True), ["do set 1", "end"])
        with self.assertRaises(TooMany):
            desk.told("find")
        self.check(desk, ("show", "do set 1\nend"))
        desk = desk_with(lock(), ["do left 1", "end", "end"])
        with self.assertRaises(NotSure):
            desk.told("short")
        self.check(desk, ("show", "do left 1\nend\nend"), ("plan end", "nodes 4"))

    def test_it_goes_on_behind_a_refusal(self):
        desk = desk_with(["box a 2", "begin yes"])
        self.refused(NoText, desk, "find")
        self.check(desk, ("world goal yes", "rows 3"), ("find", "plan for 0"))
        self.refused(NoOrder, desk, "find ")
        self.check(desk, ("plan do go 0", "nodes 2"))
        self.refused(NoName, desk, "judge")
        self.check(desk, ("clear", "cleared"))


class Desks(Checks):
    def test_two_by_turns(self):
        one, other = Desk(), Desk()
        rows = [shown_world(lock()).split("\n"), shown_world(maze()).split("\n")]
        for place in range(max(map(len, rows))):
            for desk, there in zip((one, other), rows):
                if place < len(there):
                    self.check(desk, ("world " + there[place], f"rows {place + 1}"))
        self.check(one, ("plan do force 1", "nodes 1"))
        self.check(other, ("plan do try 1", "nodes 1"), ("plan end", "nodes 2"))
        self.check(one, ("plan end", "nodes 2"), ("judge", "sure at most 9"))
        self.check(other, ("judge", "fails"), ("find", "trap"))
        self.check(one, ("find", "plan for 4"))
        self.check(other, ("show", "do try 1\nend"), ("clear", "cleared"))
        self.check(one, ("judge", "sure at most 4"), ("worth see", "4 9"), ("short", "nodes 4 to 4"))
        self.refused(NoText, other, *ASKING)
        self.check(Desk(), ("world x", "rows 1"))

    def test_a_plan_for_another_world(self):
        # The plan's rows stay where the world's grow.
        desk = desk_with(["box a 2", "begin a = 1", "goal a = 1"], ["end"])
        self.check(desk, ("judge", "sure at most 0"), ("show", "\n".join([shown_plan([END])])), ("world goal yes", "rows 4"))
        self.refused(NoText, desk, "judge")


if __name__ == "__main__":
    unittest.main()
