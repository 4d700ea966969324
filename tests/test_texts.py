"""Points 2, 3 and 29: forkplan.texts."""

import copy
import random
import re
import unittest

from forkplan.errors import NoText, NoWorld
from forkplan.find import found_plan
from forkplan.plans import plan_of
from forkplan.texts import read_plan, read_world, shown_plan, shown_world
from forkplan.worlds import world_of
from samples import (END, YES, both, box, chance_condition, chance_expression, chance_plan, chance_worlds, lists_in, lock,
                     maze, nested, number, same, spans, under)

A, B = box("a"), box("b")
MOST = 10 ** 30 - 1

LOCK_TEXT = """box a 2
box b 3
deed left 2 if b = 0
way b := ( a + 1 )
deed right 3 if ( b = 0 and a = 1 )
way b := 1
deed force 9
way b := 1
look see 1 a
begin b = 0
goal b = 1"""

# Each kind of row, and each kind of expression and condition.
TEXT = """box a 2
box b 3
deed go 12 if not a < ( b - 1 )
way
way a := ( a + 1 ), b := 0
deed yes 1
way b := ( ( a + b ) - 9 )
look see 7 ( a - b )
look peep 1 4
begin ( yes and not not a = b )
goal ( a + b ) = ( b + a )"""
ROWS = TEXT.split("\n")


def every_world():
    """A world of every kind of thing, and the ones of the other tests."""
    deeds = [
        ("go", 12, ("not", ("under", A, ("less", B, number(1)))), [[], [("a", ("plus", A, number(1))), ("b", number(0))]]),
        ("yes", 1, YES, [[("b", ("less", ("plus", A, B), number(9)))]]),
    ]
    looks = [("see", 7, ("less", A, B)), ("peep", 1, number(4))]
    begin = ("both", YES, ("not", ("not", ("same", A, B))))
    return world_of([("a", 2), ("b", 3)], deeds, looks, begin, ("same", ("plus", A, B), ("plus", B, A)))


class Worlds(unittest.TestCase):
    def check(self, world, text=None):
        before = copy.deepcopy(world)
        told = shown_world(world)
        self.assertIs(type(told), str)
        if text is not None:
            self.assertEqual(told, text)
        again = read_world(told)
        self.assertEqual((again, type(again)), (world, tuple))
        self.assertEqual(shown_world(again), told)
        self.assertEqual(world, before)

    def with_goal(self, goal):
        return world_of([("a", 2), ("b", 2)], [], [], YES, goal)

    def test_written_worlds(self):
        self.check(lock(), LOCK_TEXT)
        self.check(every_world(), TEXT)
        self.check(maze())
        self.check(spans(True))

    def test_the_least_world(self):
        self.check(world_of([("a", 2)], [], [], YES, YES), "box a 2\nbegin yes\ngoal yes")

    def test_needs(self):
        for need, text in ((YES, "deed go 1"), (("not", YES), "deed go 1 if not yes"),
                           (("both", YES, YES), "deed go 1 if ( yes and yes )"), (same("a", 0), "deed go 1 if a = 0")):
            self.check(world_of([("a", 2)], [("go", 1, need, [[]])], [], YES, YES),
                       f"box a 2\n{text}\nway\nbegin yes\ngoal yes")

    def test_ways_of_no_one_and_several_changes(self):
        changes = [(name, number(place)) for place, name in enumerate("abcd")]
        boxes = [(name, 2) for name in "abcd"]
        texts = [" a := 0", " b := 1", " c := 2", " d := 3"]
        for many in range(5):
            ways = [changes[:many], [], changes[:many][::-1]]
            self.check(world_of(boxes, [("go", 1, YES, ways)], [], YES, YES),
                       "box a 2\nbox b 2\nbox c 2\nbox d 2\ndeed go 1\nway" + ",".join(texts[:many]) + "\nway\nway"
                       + ",".join(texts[:many][::-1]) + "\nbegin yes\ngoal yes")

    def test_several_deeds_and_their_ways(self):
        deeds = [(name, place, YES, [[("a", number(place))]] * place) for place, name in enumerate(("x", "y", "z"), 1)]
        self.check(world_of([("a", 2)], deeds, [], YES, YES),
                   "box a 2\ndeed x 1\nway a := 1\ndeed y 2\nway a := 2\nway a := 2\ndeed z 3\nway a := 3\nway a := 3\n"
                   "way a := 3\nbegin yes\ngoal yes")

    def test_prices_of_thirty_figures(self):
        for price in (MOST, 10 ** 29, 1, 10, 100000000000000000000):
            self.check(world_of([("a", 2)], [("go", price, YES, [[]])], [("see", price, A)], YES, YES),
                       f"box a 2\ndeed go {price}\nway\nlook see {price} a\nbegin yes\ngoal yes")

    def test_names(self):
        # Words that mean something elsewhere are names like others, but those of conditions no boxes'.
        for name in ("box", "deed", "way", "look", "begin", "goal", "if", "end", "do", "abcdefgh", "z"):
            self.check(world_of([(name, 2)], [(name, 1, same(name, 0), [[(name, box(name))]])], [], YES, same(name, 1)),
                       f"box {name} 2\ndeed {name} 1 if {name} = 0\nway {name} := {name}\nbegin yes\ngoal {name} = 1")
        for name in ("not", "and", "yes", "if"):
            self.check(world_of([("a", 2)], [(name, 1, YES, [[]])], [], YES, YES),
                       f"box a 2\ndeed {name} 1\nway\nbegin yes\ngoal yes")
            self.check(world_of([("a", 2)], [], [(name, 1, A)], YES, YES), f"box a 2\nlook {name} 1 a\nbegin yes\ngoal yes")

    def test_conditions(self):
        nine = ("less", number(9), ("plus", A, number(0)))
        for goal, text in (
                (("same", A, nine), "a = ( 9 - ( a + 0 ) )"), (("same", nine, A), "( 9 - ( a + 0 ) ) = a"),
                (("under", nine, nine), "( 9 - ( a + 0 ) ) < ( 9 - ( a + 0 ) )"),
                (("not", ("under", A, B)), "not a < b"), (("not", ("not", YES)), "not not yes"),
                (("both", ("not", same("a", 1)), under("b", 1)), "( not a = 1 and b < 1 )"),
                (("not", ("both", same("a", 1), YES)), "not ( a = 1 and yes )"),
                (both(YES, YES, YES), "( yes and ( yes and yes ) )"),
                (("both", ("both", YES, YES), YES), "( ( yes and yes ) and yes )"),
                (("both", ("same", nine, nine), ("same", ("plus", A, B), A)),
                 "( ( 9 - ( a + 0 ) ) = ( 9 - ( a + 0 ) ) and ( a + b ) = a )")):
            self.check(self.with_goal(goal), "box a 2\nbox b 2\nbegin yes\ngoal " + text)

    def test_six_and_more_within_one_another(self):
        for depth in (6, 7, 8):
            for kind in ("plus", "less"):
                self.check(self.with_goal(("same", nested(kind, A, depth), nested(kind, number(3), depth))))
            self.check(self.with_goal(nested("both", ("under", A, B), depth)))
            condition = YES
            for _ in range(depth):
                condition = ("not", condition)
            self.check(self.with_goal(condition), "box a 2\nbox b 2\nbegin yes\ngoal " + "not " * depth + "yes")

    def test_chance_things(self):
        chance = random.Random(29)
        for _ in range(300):
            condition = chance_condition(chance, ["a", "b"], 6)
            expression = chance_expression(chance, ["a", "b"], 6)
            self.check(world_of([("a", 2), ("b", 2)], [("go", 1, condition, [[("a", expression)]])],
                                [("see", 1, expression)], YES, condition))

    def test_chance_worlds(self):
        for world, _ in chance_worlds(29, 300):
            self.check(world)


class Plans(unittest.TestCase):
    def check(self, nodes, text=None):
        before = copy.deepcopy(nodes)
        told = shown_plan(nodes)
        self.assertIs(type(told), str)
        if text is not None:
            self.assertEqual(told, text)
        again = read_plan(told)
        self.assertEqual((again, type(again)), (nodes, list))
        self.assertTrue(all(type(node) is tuple for node in again))
        self.assertEqual(nodes, before)

    def test_each_kind_of_node(self):
        self.check([END], "end")
        self.check([("do", "go", 1), END], "do go 1\nend")
        self.check([("look", "see", ((0, 1), (1, 2))), END, END], "look see 0:1 1:2\nend\nend")
        self.check([("look", "see", ())], "look see")
        self.check(found_plan(lock())[1], "look see 0:1 1:2\ndo left 3\ndo right 3\nend")

    def test_worths_below_0(self):
        self.check([("look", "see", ((-1, 0), (0, 0), (-10, 10), (-123456789, 2)))],
                   "look see -1:0 0:0 -10:10 -123456789:2")

    def test_forks_stay_in_their_order(self):
        self.check([("look", "see", ((3, 1), (-2, 5), (0, 1)))], "look see 3:1 -2:5 0:1")

    def test_nodes_that_fit_no_world(self):
        self.check([("do", "x", 7), ("look", "do", ((0, 99), (0, 100), (0, 99))), ("do", "look", 0), ("do", "end", 0)],
                   "do x 7\nlook do 0:99 0:100 0:99\ndo look 0\ndo end 0")
        self.check([("do", name, 0) for name in ("not", "and", "yes", "abcdefgh")],
                   "do not 0\ndo and 0\ndo yes 0\ndo abcdefgh 0")

    def test_numbers_of_any_figures(self):
        for figures in (1, 2, 17, 18, 19, 35, 36, 37, 100, 999, 4299, 5000):
            for great in (10 ** (figures - 1), 10 ** figures - 1, 10 ** figures // 7):
                nodes = [("do", "go", great), ("look", "see", ((great, great), (-great, 0), (great + 1, great)))]
                self.assertEqual(read_plan(shown_plan(nodes)), nodes)
        great = 12345678901234567890123456789012345678901234567890
        self.check([("do", "go", great)], "do go 12345678901234567890123456789012345678901234567890")
        zeros = 10 ** 60 + 5
        self.check([("look", "see", ((-zeros, zeros),))], f"look see -{zeros}:{zeros}")

    def test_long_plans(self):
        self.check([("do", "go", place) for place in range(1, 200)] + [END])

    def test_chance_plans(self):
        chance = random.Random(30)
        for world, other in chance_worlds(30, 200):
            plan = chance_plan(chance, other, chance.randrange(1, 9), False)
            self.check(plan)
            self.assertEqual(plan_of(world, read_plan(shown_plan(plan))), plan)


class Refusals(unittest.TestCase):
    def refused(self, refusal, ask, text):
        with self.subTest(text=text), self.assertRaises(refusal) as caught:
            ask(text)
        self.assertIs(type(caught.exception), refusal)

    def no_row(self, place, *rows):
        """That the text is refused with other rows in the place of one; its own row is read."""
        read_world(TEXT)
        for row in rows:
            self.refused(NoText, read_world, "\n".join(ROWS[:place] + [row] + ROWS[place + 1:]))

    def no_node(self, *rows):
        for row in rows:
            for text in (row, "end\n" + row, row + "\nend"):
                self.refused(NoText, read_plan, text)


class NoWorldText(Refusals):
    def test_the_text_without_signs_and_empty_rows(self):
        self.refused(NoText, read_world, "")
        self.refused(NoText, read_world, "\n")
        self.refused(NoText, read_world, TEXT + "\n")
        self.refused(NoText, read_world, "\n" + TEXT)
        self.refused(NoText, read_world, TEXT.replace("deed go", "\ndeed go"))
        self.refused(NoText, read_world, TEXT + "\n ")

    def test_blanks_and_tabs_in_any_row(self):
        for place, row in enumerate(ROWS):
            self.no_row(place, row + " ", " " + row, row.replace(" ", "  ", 1) if " " in row else row + "  ",
                        "\t" + row, row + "\t", row + "\r", "", row.replace(" ", "\t", 1) if " " in row else "\t")
            for match in re.finditer(" ", row):
                self.no_row(place, row[:match.start()] + " " + row[match.start():])
                self.no_row(place, row[:match.start()] + "\t" + row[match.end():])

    def test_great_letters_in_any_row(self):
        for place, row in enumerate(ROWS):
            for match in re.finditer("[a-z]", row):
                self.no_row(place, row[:match.start()] + match[0].upper() + row[match.end():])

    def test_words_left_out_of_any_row(self):
        for place, row in enumerate(ROWS):
            words = row.split(" ")
            for at in range(len(words)):
                changed = " ".join(words[:at] + words[at + 1:])
                # Only one "not" of two may be left out.
                if changed != "begin ( yes and not a = b )" and changed != "deed go 12 if a < ( b - 1 )":
                    self.no_row(place, changed)

    def test_boxes(self):
        self.no_row(0, "box", "box a", "box 2", "box a 2 2", "box a 02", "box a 10", "box a -2", "box a +2", "box a two",
                    "box a 2.0", "box abcdefghi 2", "box a1 2", "box a_b 2", "box a-b 2", "box 2 a", "box a  2", "boxa 2",
                    "box a 2,", "boxes a 2", "box a 2 if yes", "box a := 2", "box a 1_0", "box a \u0662")

    def test_deeds(self):
        self.no_row(2, "deed", "deed go", "deed go 012", "deed go 00", "deed go -1", "deed go 1.5", "deed go x", "deed go " +
                    "1" * 31, "deed go 1" + "0" * 30, "deed go 12 if", "deed go 12 if yes", "deed go 12 if a",
                    "deed go 12 if 1", "deed go 12 not a < b", "deed go 12 if a < b if a < b", "deed go 12 when a < b",
                    "deed go 12 a < b", "deed go 12 if a < b and a < b", "deed go if a < b", "deed 12 go", "deed goooooooo 1",
                    "deed go 12 7", "deed go 1 2 if a < b", "deed go 12 if ( yes )", "deed go 1_2", "deed go +12")

    def test_ways(self):
        self.no_row(4, "ways", "way ", "way a", "way a :=", "way a := ", "way := 1", "way a = 1", "way a : = 1", "way a:= 1",
                    "way a :=1", "way a := 1,", "way a := 1, ", "way , a := 1", "way, a := 1", "way a := 1,b := 0",
                    "way a := 1 , b := 0", "way a := 1,, b := 0", "way a := 1 b := 0", "way a := 1,  b := 0", "way a := 10",
                    "way a := a + 1", "way a := a = 1", "way a := yes", "way a := not", "way 1 := a", "way A := 1",
                    "way abcdefghi := 1", "way a := 1; b := 0", "way ( a ) := 1", "way a := 1 := 1", "way\ta := 1")

    def test_looks(self):
        self.no_row(7, "look see 7", "look see ( a - b )", "look see 07 a", "look see 7 yes", "look see 7 not", "look see 7 and",
                    "look see 7 a b", "look see 7 a = b", "look see 7 -1", "look see 7 10", "look see 7 a - b", "look 7 a",
                    "look see " + "9" * 31 + " a", "look see 7 if a", "look seeeeeeee 7 a", "look see -7 a", "look see")

    def test_expressions(self):
        for bad in ("( a + b", "a + b )", "( a )", "( ( a + b ) )", "( a + b ) )", "( ( a + b )", "(a + b)", "( a +b )",
                    "( a + b + a )", "( a * b )", "( + a b )", "( a + )", "( + b )", "( )", "()", ")", "(", "+", "-", "a +",
                    "( a - -1 )", "-1", "10", "01", "00", "( a + 12 )", "abcdefghi", "( a + abcdefghi )", "A", "( not + a )",
                    "( a + and )", "( yes - yes )", "( a = b )", "( a and b )", "( a + ( b )", "a b", "( a b )", "( a +  b )",
                    "1 2", ")(", ") a + b (", "E", "C", "a1", "( a + b )a", "x'", "0x1", "1e1", "\u0661", "\u00b2", "\u00e4"):
            self.no_row(8, "look peep 1 " + bad)
            self.no_row(9, f"begin {bad} = 1", f"begin 1 = {bad}", f"begin ( yes and {bad} < 1 )")
            self.no_row(4, f"way b := 1, a := {bad}")

    def test_conditions(self):
        for bad in ("", " ", "a", "1", "( a + b )", "no", "true", "a = b = a", "a == b", "a > b", "a <= b", "a =", "= b", "a b",
                    "a = b and b = a", "( a = b )", "( yes )", "( yes and )", "( and yes )", "( yes and yes and yes )",
                    "( yes and yes", "yes and yes )", "( yes and yes ) )", "( ( yes and yes )", "not", "not not", "not a",
                    "yes not", "not ( yes )", "yes yes", "( yes or yes )", "yes = yes", "not = 1", "a = yes", "a = not b",
                    "( not a ) = b", "( a + b = a )", "( a = b + a )", "a = ( b = a )", "( yes + yes )", "not not",
                    "( a = b ) and ( b = a )", "notyes", "not  yes", "Yes", "YES", "NOT yes", "( yes AND yes )", "a=b",
                    "( yes and a )", "( a and yes )", "if yes", "yes,", "yes.", "E", "C", "E = E", "not C", "( not yes )",
                    "and", "( and )", "( yes and not )", "(yes and yes)", "a < < b", "a = < b"):
            self.no_row(9, "begin " + bad)
            self.no_row(10, "goal " + bad)
            self.no_row(2, "deed go 12 if " + bad)

    def test_rows_of_no_kind(self):
        for row in ("end", "do go 1", "room a 2", "#", "begin", "goal", "Begin yes", "yes", "a := 1", "if yes", "rows", "-"):
            for place in range(len(ROWS) + 1):
                self.refused(NoText, read_world, "\n".join(ROWS[:place] + [row] + ROWS[place:]))

    def test_rows_out_of_their_order(self):
        text = "\n".join
        for order in ((1, 0, 2), (0, 2, 1), (2, 0, 1), (2, 1, 0), (1, 2, 0)):
            groups = [ROWS[:2], ROWS[2:7], ROWS[7:9]]
            self.refused(NoText, read_world, text([row for place in order for row in groups[place]] + ROWS[9:]))
        self.refused(NoText, read_world, text(ROWS[:9] + ROWS[10:] + ROWS[9:10]))
        self.refused(NoText, read_world, text(ROWS[9:] + ROWS[:9]))
        self.refused(NoText, read_world, text(ROWS[9:10] + ROWS[:9] + ROWS[10:]))
        for row in ROWS[:9]:
            self.refused(NoText, read_world, text(ROWS + [row]))
            self.refused(NoText, read_world, text(ROWS[:10] + [row] + ROWS[10:]))
        for row in ("box c 2", "deed run 1", "way"):
            self.refused(NoText, read_world, text(ROWS[:8] + [row] + ROWS[8:]))
        self.refused(NoText, read_world, text(ROWS[:3] + ["box c 2"] + ROWS[3:]))
        self.refused(NoText, read_world, text(ROWS[:3] + ["look spy 1 a"] + ROWS[3:]))
        self.refused(NoText, read_world, text(ROWS[::-1]))

    def test_begin_or_goal_wanting_or_twice(self):
        text = "\n".join
        for rows in (ROWS[:9], ROWS[:10], ROWS[:9] + ROWS[10:], ROWS + ROWS[10:], ROWS[:10] + ROWS[9:], ROWS + ROWS[9:],
                     ROWS[9:10], ROWS[10:], ROWS[:9] + ROWS[9:10] * 2, ROWS[:9] + ROWS[10:] * 2, ROWS[:1], ROWS + ROWS):
            self.refused(NoText, read_world, text(rows))

    def test_a_way_ahead_of_every_deed(self):
        for rows in (ROWS[:2] + ["way"] + ROWS[2:], ROWS[:2] + ["way a := 1"] + ROWS[7:], ["way"] + ROWS,
                     ROWS[:1] + ["way"] + ROWS[1:], ROWS[:2] + ROWS[3:5] + ROWS[7:], ["way"] + ROWS[9:]):
            self.refused(NoText, read_world, "\n".join(rows))

    def test_parentheses_without_end(self):
        for many in (10, 1000, 1900):
            for bad in ("( " * many + "a", "( " * many + "a" + " )" * many, "not " * many, "( yes and " * (many // 3) + "yes",
                        "( a + " * (many // 3) + "a = a", "yes" + " )" * many, "a = " * many, "( a - " * (many // 3) + "a"):
                self.no_row(9, "begin " + bad)

    def test_a_world_of_words_alone(self):
        for text in ("x", "end", "\t", " ", "yes", "box", "\n\n\n", "begin yes", "goal yes", "box a 2", "begin yes goal yes"):
            self.refused(NoText, read_world, text)


class NoSuchWorld(Refusals):
    def test_all_rows_are_such_but_the_world_is_none(self):
        for text in (
                "begin yes\ngoal yes", "box a 0\nbegin yes\ngoal yes", "box a 1\nbegin yes\ngoal yes",
                "box a 6\nbegin yes\ngoal yes", "box a 9\nbegin yes\ngoal yes", "box a 2\nbox a 3\nbegin yes\ngoal yes",
                "box a 2\ndeed go 0\nway\nbegin yes\ngoal yes", "box a 2\nlook see 0 a\nbegin yes\ngoal yes",
                "box a 2\ndeed go 1\nbegin yes\ngoal yes", "box a 2\ndeed go 1\ndeed run 1\nway\nbegin yes\ngoal yes",
                "box a 2\ndeed go 1\nway\ndeed go 1\nway\nbegin yes\ngoal yes",
                "box a 2\nlook see 1 a\nlook see 1 a\nbegin yes\ngoal yes",
                "box a 2\ndeed see 1\nway\nlook see 1 a\nbegin yes\ngoal yes", "box a 2\nbegin a = 2\ngoal yes",
                "box a 2\nbegin not yes\ngoal yes", "box yes 2\nbegin yes\ngoal yes", "box not 2\nbegin yes\ngoal yes",
                "box and 2\nbegin yes\ngoal yes", "box a 2\nbegin yes\ngoal b = 1", "box a 2\nbegin b = 0\ngoal yes",
                "box a 2\ndeed go 1 if b = 1\nway\nbegin yes\ngoal yes", "box a 2\ndeed go 1\nway b := 1\nbegin yes\ngoal yes",
                "box a 2\ndeed go 1\nway a := b\nbegin yes\ngoal yes", "box a 2\nlook see 1 b\nbegin yes\ngoal yes",
                "box a 2\ndeed go 1\nway a := 1, a := 1\nbegin yes\ngoal yes",
                "box a 2\ndeed go 1\nway yes := 1\nbegin yes\ngoal yes"):
            self.refused(NoWorld, read_world, text)

    def test_what_is_no_row_goes_ahead(self):
        for text in ("box a 9\nbegin yes\ngoal no", "box a 9\nbegin yes\ngoal yes\n", "begin a = a\ngoal yes ",
                     "box a 2\ndeed go 0\nbegin yes\ngoal 1", "box yes 2\nbegin yes = 1\ngoal yes",
                     "box a 2\nbox a 2\nbegin yes", "box a 2\nlook see 0 yes\nbegin yes\ngoal yes"):
            self.refused(NoText, read_world, text)


class NoPlanText(Refusals):
    def test_the_text_without_signs_and_empty_rows(self):
        for text in ("", "\n", "end\n", "\nend", "end\n\nend", "end\n\n", "end\n "):
            self.refused(NoText, read_plan, text)

    def test_ends(self):
        self.no_node("ends", "end ", " end", "End", "END", "end 0", "en d", "end\t", "end end", "end:", "e")

    def test_deeds(self):
        self.no_node("do", "do go", "do 1", "do go 1 2", "do go 01", "do go 00", "do go -1", "do go -0", "do go +1", "do go x",
                     "do go  1", "do  go 1", " do go 1", "do go 1 ", "do\tgo 1", "do go\t1", "Do go 1", "do Go 1", "do g0 1",
                     "do abcdefghi 1", "do go 1:2", "do go:1", "do go 1.0", "do 1 go", "do go 1,", "do go ", "dogo 1", "go 1",
                     "do  1", "do go 1_0", "do go \u0661", "do go 1\r")

    def test_looks(self):
        self.no_node("look", "look ", "look  ", "look see ", "look see  0:1", "look see 0:1 ", "look see 0:1  1:2", " look see",
                     "look see 0", "look see :", "look see 0:", "look see :1", "look see 0:1:2", "look see 0 :1", "look see 0: 1",
                     "look see 0 : 1", "look see 00:1", "look see 01:1", "look see 0:01", "look see -0:1", "look see -01:1",
                     "look see --1:1", "look see -:1", "look see 0:-1", "look see 0:-0", "look see +1:1", "look see - 1:1",
                     "look see 0:1, 1:2", "look see 0:1,1:2", "look see a:1", "look see 0:a", "look Look 0:1", "Look see 0:1",
                     "look abcdefghi 0:1", "look 0:1", "look s-e 0:1", "look see\t0:1", "look see 0:1\t", "looksee 0:1",
                     "look see 0:1 end", "look see 0=1", "look see (0:1)", "look see 1-:1", "look see 0::1", "look see -00:1")

    def test_rows_of_a_world(self):
        for row in ROWS:
            self.no_node(row)


class NothingElse(unittest.TestCase):
    """What is read is written back to the very same text; what is refused is no text by another reading."""

    def changed(self, chance, text):
        for _ in range(chance.choice([1, 1, 2, 3])):
            place = chance.randrange(len(text) + 1)
            sign = chance.choice("ab01259 ()+-=<:,\n\tA" + text)
            text = text[:place] + chance.choice([sign, "", sign + text[place:place + 1]]) + text[place + 1:]
        return text

    def is_written(self, thing, kind):
        """Whether an expression or a condition is written, by writing E and C in the place of what writes them."""
        if "E" in thing or "C" in thing:
            return False
        words = [re.sub(r"^([a-z]{1,8}|[0-9])$", "E", word) if word not in ("not", "and", "yes") else word
                 for word in thing.split(" ")]
        thing, last = " ".join(words), None
        while thing != last:
            last, thing = thing, re.sub(r"\( E [+-] E \)", "E", thing)
        thing, last = re.sub(r"(?<![^ ])yes(?![^ ])", "C", re.sub(r"(?<![^ ])E [=<] E(?![^ ])", "C", thing)), None
        while thing != last:
            last, thing = thing, re.sub(r"(?<![^ ])not C(?![^ ])|\( C and C \)", "C", thing)
        return thing == kind

    def is_row(self, row):
        word, price, thing = "[a-z]{1,8}", "(?:[1-9][0-9]{0,29}|0)", "([^,\n]*)"
        if re.fullmatch(f"box {word} [0-9]|deed {word} {price}|way", row):
            return True
        for pattern, kind in ((f"deed {word} {price} if {thing}", "C"), (f"look {word} {price} {thing}", "E"),
                              (f"begin {thing}", "C"), (f"goal {thing}", "C")):
            match = re.fullmatch(pattern, row)
            if match:
                return self.is_written(match[1], kind) and not (pattern.startswith("deed") and match[1] == "yes")
        changes = row[4:].split(", ") if row.startswith("way ") else [""]
        matches = [re.fullmatch(f"{word} := {thing}", change) for change in changes]
        return all(match and self.is_written(match[1], "E") for match in matches)

    def is_world_text(self, text):
        rows = text.split("\n")
        kinds = "".join({"box": "b", "deed": "d", "way": "w", "look": "l", "begin": "B", "goal": "G"}.get(
            row.split(" ")[0], "?") for row in rows)
        return bool(re.fullmatch("b*(dw*)*l*BG", kinds)) and all(self.is_row(row) for row in rows)

    def test_worlds(self):
        chance = random.Random(291)
        kinds = {"read": 0, NoWorld: 0, NoText: 0}
        texts = [TEXT, LOCK_TEXT] + [shown_world(world) for world, _ in chance_worlds(291, 40)]
        for _ in range(6000):
            text = self.changed(chance, chance.choice(texts))
            try:
                world = read_world(text)
            except (NoText, NoWorld) as refusal:
                self.assertEqual(self.is_world_text(text), type(refusal) is NoWorld, text)
                kinds[type(refusal)] += 1
            else:
                self.assertEqual(shown_world(world), text)
                self.assertEqual(world_of(*world), world)
                self.assertTrue(self.is_world_text(text), text)
                kinds["read"] += 1
        self.assertGreater(min(kinds.values()), 50, kinds)

    def test_plans(self):
        chance = random.Random(292)
        kinds = {"read": 0, "refused": 0}
        row = r"end|do [a-z]{1,8} (0|[1-9][0-9]*)|look [a-z]{1,8}( (0|-?[1-9][0-9]*):(0|[1-9][0-9]*))*"
        start = "look see 0:1 -1:2 10:3\ndo left 30\ndo right 3\nend\nlook see\nlook peep -7:100\nend"
        for _ in range(6000):
            text = self.changed(chance, start)
            written = all(re.fullmatch(row, one) for one in text.split("\n"))
            try:
                nodes = read_plan(text)
            except NoText:
                self.assertFalse(written, text)
                kinds["refused"] += 1
            else:
                self.assertEqual(shown_plan(nodes), text)
                self.assertTrue(written, text)
                kinds["read"] += 1
        self.assertGreater(min(kinds.values()), 500, kinds)


class Owned(unittest.TestCase):
    def test_what_was_told_may_be_changed_behind(self):
        first, second = read_world(TEXT), read_world(TEXT)
        lists = lists_in(first) + lists_in(second)
        self.assertEqual(len({id(one) for one in lists}), len(lists))
        for one in lists_in(first):
            one.clear()
        self.assertEqual(second, every_world())
        self.assertEqual(read_world(TEXT), every_world())
        nodes = read_plan("do go 1\nend")
        nodes.clear()
        self.assertEqual(read_plan("do go 1\nend"), [("do", "go", 1), END])

    def test_what_was_handed_in_stays(self):
        world, plan = every_world(), [("look", "see", ((0, 1), (-1, 0))), END]
        shown_world(world)
        shown_plan(plan)
        self.assertEqual((world, plan), (every_world(), [("look", "see", ((0, 1), (-1, 0))), END]))


if __name__ == "__main__":
    unittest.main()
