"""Points 2, 3, 7, 8 and 9: forkplan.worlds."""

import copy
import itertools
import random
import unittest

from forkplan import errors
from forkplan.errors import ForkError, NoName, NoWorld
from forkplan.worlds import comes_of, shown, standings, world_of
from samples import chance_condition, chance_expression, nested, reckoned

A, B = ("box", "a"), ("box", "b")
ZERO, ONE, NINE = ("number", 0), ("number", 1), ("number", 9)
YES = ("yes",)
STRANGE = ("box", "c")
# A name that is no box's, in each place where an expression may have one.
STRANGE_EXPRESSIONS = [
    STRANGE,
    ("plus", STRANGE, A), ("plus", A, STRANGE), ("less", STRANGE, A), ("less", A, STRANGE),
    ("plus", ("less", ONE, ("plus", A, STRANGE)), B),
]
STRANGE_CONDITIONS = [(kind, *pair) for kind in ("same", "under") for one in STRANGE_EXPRESSIONS
                      for pair in ((one, A), (A, one))]
STRANGE_CONDITIONS += [("not", ("same", A, STRANGE)), ("both", ("under", STRANGE, A), YES),
                       ("both", YES, ("not", ("same", STRANGE, STRANGE)))]
OTHERS = [errors.NoName, errors.NoPlan, errors.NotSure, errors.NotPlain, errors.NoWeights, errors.TooMany,
          errors.NoText, errors.NoOrder]


def five():
    """The five of a world that is one, new each time."""
    return {
        "boxes": [("a", 2), ("b", 3)],
        "deeds": [
            ("turn", 2, ("under", A, ONE), [[("a", ONE)], [("a", ("plus", A, B)), ("b", A)], []]),
            ("swap", 10 ** 29, YES, [[("b", A), ("a", B)]]),
        ],
        "looks": [("peep", 1, ("less", A, B)), ("stare", 3, B)],
        "begin": ("same", B, ZERO),
        "goal": ("both", ("same", A, ONE), ("not", ("under", B, ONE))),
    }


def made(parts):
    return world_of(parts["boxes"], parts["deeds"], parts["looks"], parts["begin"], parts["goal"])


class Made(unittest.TestCase):
    def test_told_is_a_tuple_of_just_these_five(self):
        parts = five()
        world = made(parts)
        self.assertIs(type(world), tuple)
        self.assertEqual(world, tuple(five().values()))

    def test_lists_are_lists_and_tuples_tuples(self):
        boxes, deeds, looks, begin, goal = made(five())
        ways = [deed[3] for deed in deeds]
        inner_ways = [way for deed_ways in ways for way in deed_ways]
        for told in [boxes, deeds, looks] + ways + inner_ways:
            self.assertIs(type(told), list)
        for told in boxes + deeds + looks + [change for way in inner_ways for change in way] + [begin, goal]:
            self.assertIs(type(told), tuple)

    def test_what_is_told_may_be_handed_in(self):
        world = made(five())
        self.assertEqual(world_of(*world), world)

    def test_the_least_world(self):
        self.assertEqual(world_of([("a", 2)], [], [], YES, YES), ([("a", 2)], [], [], YES, YES))

    def test_a_way_may_change_nothing(self):
        self.assertEqual(world_of([("a", 2)], [("wait", 1, YES, [[]])], [], YES, YES)[1], [("wait", 1, YES, [[]])])

    def test_every_size_that_is_told(self):
        for size in (2, 3, 4, 5):
            self.assertEqual(standings(world_of([("a", size)], [], [], YES, YES)), [(n,) for n in range(size)])

    def test_boxes_may_be_called_like_deeds_and_looks(self):
        parts = five()
        parts["boxes"] = [("a", 2), ("b", 3), ("turn", 2), ("peep", 2)]
        self.assertEqual(len(standings(made(parts))), 24)

    def test_deeds_and_looks_may_be_called_not_and_yes(self):
        world = world_of([("a", 2)], [("not", 1, YES, [[("a", ONE)]]), ("yes", 1, YES, [[]])], [("and", 1, A)], YES, YES)
        self.assertEqual(comes_of(world, "not", (0,)), [(1,)])
        self.assertEqual(comes_of(world, "yes", (0,)), [(0,)])
        self.assertEqual(shown(world, "and", (1,)), 1)

    def test_different_ways_may_change_the_same_box(self):
        world = world_of([("a", 3)], [("roll", 1, YES, [[("a", ZERO)], [("a", ZERO)]])], [], YES, YES)
        self.assertEqual(comes_of(world, "roll", (2,)), [(0,), (0,)])

    def test_a_begin_that_holds_in_one_standing_alone(self):
        parts = five()
        parts["begin"] = ("both", ("same", A, ONE), ("same", B, ("number", 2)))
        self.assertEqual(made(parts)[3], parts["begin"])

    def test_a_goal_and_a_need_that_hold_nowhere(self):
        parts = five()
        parts["goal"] = ("not", YES)
        parts["deeds"][0] = ("turn", 2, ("not", YES), [[]])
        self.assertEqual(made(parts)[4], ("not", YES))


class Owned(unittest.TestCase):
    def test_what_was_handed_in_stays(self):
        parts = five()
        made(parts)
        self.assertEqual(parts, five())

    def test_what_was_refused_stays(self):
        parts = five()
        parts["goal"] = ("same", A, STRANGE)
        kept = copy.deepcopy(parts)
        with self.assertRaises(NoWorld):
            made(parts)
        self.assertEqual(parts, kept)

    def spoil(self, boxes, deeds, looks):
        """Changes every list there is, the inner ones first."""
        for deed in deeds:
            for way in deed[3]:
                way.append(("b", NINE))
                way.reverse()
            deed[3].append([("a", ZERO)])
            deed[3].reverse()
        for told in (boxes, deeds, looks):
            told.reverse()
            told.pop()

    def test_what_was_handed_in_may_be_changed_behind(self):
        parts = five()
        world = made(parts)
        self.spoil(parts["boxes"], parts["deeds"], parts["looks"])
        self.assertEqual(world, tuple(five().values()))

    def test_what_was_told_may_be_changed_behind(self):
        parts = five()
        one = made(parts)
        other = made(parts)
        of_told = world_of(*one)
        self.spoil(one[0], one[1], one[2])
        self.assertEqual(parts, five())
        self.assertEqual(other, tuple(five().values()))
        self.assertEqual(of_told, tuple(five().values()))
        self.assertEqual(made(five()), tuple(five().values()))

    def test_no_answer_changes_the_world_or_hangs_on_an_earlier_one(self):
        world = made(five())
        for ask in (lambda: standings(world), lambda: comes_of(world, "turn", (1, 2))):
            told = ask()
            kept = list(told)
            told.reverse()
            told.append("x")
            self.assertEqual(ask(), kept)
        shown(world, "peep", (1, 2))
        self.assertEqual(world, tuple(five().values()))

    def test_worlds_of_one_name_are_not_taken_for_one_another(self):
        one = world_of([("a", 2)], [("go", 1, YES, [[("a", ONE)]])], [("see", 1, A)], YES, YES)
        other = world_of([("a", 3)], [("go", 1, YES, [[("a", ZERO)]])], [("see", 1, NINE)], YES, YES)
        self.assertEqual([comes_of(world, "go", (1,)) for world in (one, other, one)], [[(1,)], [(0,)], [(1,)]])
        self.assertEqual([shown(world, "see", (1,)) for world in (one, other, one)], [1, 9, 1])
        self.assertEqual([len(standings(world)) for world in (one, other, one)], [2, 3, 2])


class Refused(unittest.TestCase):
    def check(self, **changed):
        """The world is one but for what is changed: only that can be the ground."""
        parts = five()
        made(parts)
        parts.update(changed)
        with self.subTest(**changed):
            with self.assertRaises(NoWorld) as caught:
                made(parts)
            self.assertIs(type(caught.exception), NoWorld)
            self.assertIsInstance(caught.exception, ForkError)
            self.assertIsInstance(caught.exception, ValueError)
            self.assertNotIsInstance(caught.exception, tuple(OTHERS))

    def with_deed(self, price=1, need=YES, ways=None):
        self.check(deeds=five()["deeds"] + [("more", price, need, [[]] if ways is None else ways)])

    def test_no_box(self):
        with self.assertRaises(NoWorld):
            world_of([], [], [], YES, YES)
        self.check(boxes=[], deeds=[], looks=[], begin=YES, goal=YES)

    def test_a_boxs_name_twice(self):
        self.check(boxes=[("a", 2), ("b", 3), ("a", 2)])
        self.check(boxes=[("a", 2), ("b", 3), ("b", 4)])

    def test_a_deeds_name_twice(self):
        deeds = five()["deeds"]
        self.check(deeds=deeds + [deeds[0]])
        self.check(deeds=deeds + [("swap", 1, YES, [[]])])

    def test_a_looks_name_twice(self):
        looks = five()["looks"]
        self.check(looks=looks + [looks[0]])
        self.check(looks=looks + [("stare", 9, A)])

    def test_a_deed_and_a_look_of_one_name(self):
        self.check(looks=[("swap", 1, A)])
        self.check(looks=five()["looks"] + [("turn", 1, A)])

    def test_a_size_that_is_none(self):
        for size in (1, 0, -1, -2, 6, 7, 10 ** 30):
            self.check(boxes=[("a", 2), ("b", 3), ("c", size)])
            self.check(boxes=[("c", size), ("a", 2), ("b", 3)])

    def test_a_deeds_price_that_is_none(self):
        for price in (0, -1, -10 ** 29):
            self.with_deed(price=price)
            self.check(deeds=[("first", price, YES, [[]])] + five()["deeds"])

    def test_a_looks_price_that_is_none(self):
        for price in (0, -1, -10 ** 29):
            self.check(looks=[("first", price, A)] + five()["looks"])
            self.check(looks=five()["looks"] + [("last", price, A)])

    def test_a_deed_without_a_way(self):
        self.with_deed(ways=[])
        self.check(deeds=[("first", 1, YES, [])] + five()["deeds"])

    def test_a_change_of_no_box(self):
        self.with_deed(ways=[[("c", ONE)]])
        self.with_deed(ways=[[("a", ONE)], [("b", ONE), ("c", ONE)]])
        self.with_deed(ways=[[("turn", ONE)]])

    def test_a_box_changed_twice_in_one_way(self):
        self.with_deed(ways=[[("a", ONE), ("a", ONE)]])
        self.with_deed(ways=[[], [("a", ONE), ("b", A), ("a", ZERO)]])

    def test_a_strange_name_in_a_change(self):
        for expression in STRANGE_EXPRESSIONS:
            self.with_deed(ways=[[("a", expression)]])
            self.with_deed(ways=[[("a", ONE)], [("b", ONE), ("a", expression)]])

    def test_a_strange_name_in_a_look(self):
        for expression in STRANGE_EXPRESSIONS:
            self.check(looks=five()["looks"] + [("last", 1, expression)])
            self.check(looks=[("first", 1, expression)] + five()["looks"])

    def test_a_strange_name_in_a_need_the_begin_and_the_goal(self):
        for condition in STRANGE_CONDITIONS:
            self.with_deed(need=condition)
            self.check(begin=condition)
            self.check(goal=condition)

    def test_a_strange_name_that_is_never_reckoned(self):
        never = ("both", ("not", YES), ("same", A, STRANGE))
        self.with_deed(need=never)
        self.check(goal=never)
        self.check(begin=("not", never))

    def test_a_deed_and_a_look_are_no_boxes(self):
        self.check(goal=("same", A, ("box", "turn")))
        self.check(begin=("under", ("box", "peep"), NINE))

    def test_a_box_called_by_a_word_of_conditions(self):
        for name in ("not", "and", "yes"):
            self.check(boxes=[("a", 2), ("b", 3), (name, 2)])
            self.check(boxes=[(name, 2), ("a", 2), ("b", 3)])

    def test_a_begin_that_holds_nowhere(self):
        self.check(begin=("not", YES))
        self.check(begin=("same", A, ("number", 2)))
        self.check(begin=("both", ("under", A, B), ("under", B, A)))


class Standings(unittest.TestCase):
    def test_all_of_them_sorted(self):
        self.assertEqual(standings(made(five())), [(0, 0), (0, 1), (0, 2), (1, 0), (1, 1), (1, 2)])
        world = world_of([("b", 3), ("a", 2)], [], [], YES, YES)
        self.assertEqual(standings(world), [(0, 0), (0, 1), (1, 0), (1, 1), (2, 0), (2, 1)])

    def test_one_box(self):
        self.assertEqual(standings(world_of([("a", 5)], [], [], YES, YES)), [(0,), (1,), (2,), (3,), (4,)])

    def test_also_where_begin_does_not_hold(self):
        world = world_of([("a", 2)], [], [], ("same", A, ONE), YES)
        self.assertEqual(standings(world), [(0,), (1,)])

    def test_of_many_kinds(self):
        for sizes in itertools.product((2, 3, 5), repeat=3):
            world = world_of(list(zip(["a", "b", "c"], sizes)), [], [], YES, YES)
            self.assertEqual(standings(world), sorted(itertools.product(*[range(size) for size in sizes])))


class ComesOf(unittest.TestCase):
    def test_way_by_way(self):
        world = made(five())
        self.assertEqual(comes_of(world, "turn", (0, 2)), [(1, 2), (0, 0), (0, 2)])
        self.assertEqual(comes_of(world, "turn", (0, 0)), [(1, 0), (0, 0), (0, 0)])

    def test_also_where_the_need_does_not_hold(self):
        self.assertEqual(comes_of(made(five()), "turn", (1, 2)), [(1, 2), (1, 1), (1, 2)])

    def test_all_changes_at_once_by_the_values_ahead(self):
        world = world_of([("a", 5), ("b", 5)], [("swap", 1, YES, [[("a", B), ("b", A)], [("b", A), ("a", B)]])],
                         [], YES, YES)
        for one, other in itertools.product(range(5), repeat=2):
            self.assertEqual(comes_of(world, "swap", (one, other)), [(other, one)] * 2)

    def test_the_rest_also_of_a_worth_below_0_or_beyond_the_size(self):
        ways = [[("a", ("plus", A, NINE))], [("a", ("less", A, NINE))], [("a", ("less", ZERO, ("number", 3)))],
                [("b", ("less", ONE, ("plus", NINE, NINE)))]]
        world = world_of([("a", 3), ("b", 5)], [("move", 1, YES, ways)], [], YES, YES)
        self.assertEqual(comes_of(world, "move", (2, 4)), [(2, 4), (2, 4), (0, 4), (2, 3)])
        steps = [[("a", ("less", A, ONE))], [("a", ("plus", A, ONE))]]
        world = world_of([("a", 3)], [("step", 1, YES, steps)], [], YES, YES)
        self.assertEqual([comes_of(world, "step", (value,)) for value in range(3)],
                         [[(2,), (1,)], [(0,), (2,)], [(1,), (0,)]])

    def test_each_worth_by_its_own_boxs_size(self):
        world = world_of([("a", 2), ("b", 3), ("c", 5)],
                         [("all", 1, YES, [[("c", NINE), ("b", NINE), ("a", NINE)]])], [], YES, YES)
        self.assertEqual(comes_of(world, "all", (0, 1, 0)), [(1, 0, 4)])

    def test_the_others_stay(self):
        world = world_of([("a", 4), ("b", 4), ("c", 4)], [("set", 1, YES, [[("b", ZERO)], []])], [], YES, YES)
        self.assertEqual(comes_of(world, "set", (3, 2, 1)), [(3, 0, 1), (3, 2, 1)])

    def test_told_are_tuples_in_a_list(self):
        told = comes_of(made(five()), "turn", (0, 2))
        self.assertIs(type(told), list)
        self.assertEqual([type(one) for one in told], [tuple] * 3)

    def test_a_name_that_is_no_deeds(self):
        world = made(five())
        for name in ("nothing", "peep", "stare", "a", "b", "tur", "turns", ""):
            with self.subTest(name=name), self.assertRaises(NoName) as caught:
                comes_of(world, name, (0, 0))
            self.assertIs(type(caught.exception), NoName)
        with self.assertRaises(NoName):
            comes_of(world_of([("a", 2)], [], [], YES, YES), "turn", (0,))


class Shown(unittest.TestCase):
    def test_the_worth(self):
        world = made(five())
        self.assertEqual([shown(world, "stare", (1, value)) for value in range(3)], [0, 1, 2])

    def test_also_below_0_and_not_cut(self):
        world = made(five())
        self.assertEqual([shown(world, "peep", (0, value)) for value in range(3)], [0, -1, -2])
        world = world_of([("a", 2)], [], [("far", 1, ("plus", A, NINE))], YES, YES)
        self.assertEqual(shown(world, "far", (1,)), 10)

    def test_a_name_that_is_no_looks(self):
        world = made(five())
        for name in ("nothing", "turn", "swap", "a", "b", "peeps", ""):
            with self.subTest(name=name), self.assertRaises(NoName) as caught:
                shown(world, name, (0, 0))
            self.assertIs(type(caught.exception), NoName)


class AnotherReckoning(unittest.TestCase):
    def chance_world(self, chance):
        boxes = [(name, chance.randrange(2, 6)) for name in chance.sample(["a", "bb", "ccc", "no"], 3)]
        names = [name for name, _ in boxes]
        deeds = []
        for deed in ("go", "run")[:chance.randrange(3)]:
            ways = [[(name, chance_expression(chance, names, 3)) for name in chance.sample(names, chance.randrange(4))]
                    for _ in range(chance.randrange(1, 5))]
            deeds.append((deed, chance.randrange(1, 9), chance_condition(chance, names, 3), ways))
        looks = [("see", chance.randrange(1, 9), chance_expression(chance, names, 4))]
        return boxes, deeds, looks, chance_condition(chance, names, 4), chance_condition(chance, names, 4)

    def check_answers(self, parts, standing):
        boxes, deeds, looks = parts[:3]
        world = world_of(*parts)
        for name, _, _, ways in deeds:
            expected = []
            for way in ways:
                changed = dict(way)
                expected.append(tuple(
                    reckoned(changed[box], boxes, standing) % size if box in changed else value
                    for (box, size), value in zip(boxes, standing)))
            self.assertEqual(comes_of(world, name, standing), expected)
        self.assertEqual(shown(world, "see", standing), reckoned(looks[0][2], boxes, standing))

    def test_chance_worlds(self):
        chance = random.Random(9)
        kinds = {True: 0, False: 0}
        for _ in range(150):
            parts = self.chance_world(chance)
            every = list(itertools.product(*[range(size) for _, size in parts[0]]))
            begins = any(reckoned(parts[3], parts[0], standing) for standing in every)
            kinds[begins] += 1
            if not begins:
                with self.assertRaises(NoWorld):
                    world_of(*parts)
                continue
            self.assertEqual(standings(world_of(*parts)), every)
            for standing in chance.sample(every, 5):
                self.check_answers(parts, standing)
        self.assertGreater(min(kinds.values()), 5)


class Bounds(unittest.TestCase):
    PRICE = 10 ** 30 - 1

    def great_world(self, sizes):
        names = ["abcdefg" + letter for letter in "uvwxyz"][:len(sizes)]
        boxes = list(zip(names, sizes))
        deep = nested("plus", ("less", ZERO, ("box", names[-1])), 5)
        way = [(name, deep) for name in names[:4]]
        need = nested("both", ("under", deep, NINE), 6)
        deeds = [("deed" + letter, self.PRICE, need, [list(way) for _ in range(4)]) for letter in "abcdefgh"]
        looks = [("look" + letter, self.PRICE, deep) for letter in "abcdef"]
        return world_of(boxes, deeds, looks, need, ("not", need))

    def check(self, sizes, standing, behind):
        world = self.great_world(sizes)
        told = standings(world)
        self.assertEqual(told, list(itertools.product(*[range(size) for size in sizes])))
        for name, price, _, _ in world[1]:
            self.assertEqual(price, self.PRICE)
            self.assertEqual(comes_of(world, name, standing), [behind] * 4)
        for name, price, _ in world[2]:
            self.assertEqual(price, self.PRICE)
            self.assertEqual(shown(world, name, standing), -32 * standing[-1])
        return told

    def test_two_hundred_standings(self):
        self.assertEqual(len(self.check((5, 2, 2, 2, 5), (0, 1, 1, 0, 4), (2, 0, 0, 0, 4))), 200)

    def test_six_boxes(self):
        self.assertEqual(len(self.check((3, 2, 2, 2, 2, 4), (0, 1, 1, 0, 1, 3), (0, 0, 0, 0, 1, 3))), 192)

    def test_somewhat_beyond_is_not_refused(self):
        boxes = [("abcdefghij" + letter, 2) for letter in "abcdefg"]
        far = ("number", 12)
        deep = nested("plus", ("plus", far, far), 6)
        deeds = [("longlonglong" + letter, 10 ** 35, YES, [[(boxes[0][0], deep)]] * 5) for letter in "abcdefghi"]
        looks = [("looklonglong" + letter, 10 ** 35, far) for letter in "abcdefg"]
        world = world_of(boxes, deeds, looks, YES, YES)
        self.assertEqual(len(standings(world)), 128)
        self.assertEqual(comes_of(world, "longlonglonga", (1,) * 7), [(0,) + (1,) * 6] * 5)
        self.assertEqual(shown(world, "looklonglongg", (1,) * 7), 12)


if __name__ == "__main__":
    unittest.main()
