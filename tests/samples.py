"""What several tests draw on: chance expressions, worlds and plans from a seed, and the same reckoned another way."""

import itertools
import math
import random

from forkplan.find import found_plan
from forkplan.worlds import world_of

YES = ("yes",)
END = ("end",)


def chance_expression(chance, names, depth):
    kind = chance.choice(["number", "box", "plus", "less", "plus", "less"] if depth else ["number", "box"])
    if kind == "number":
        return (kind, chance.randrange(10))
    if kind == "box":
        return (kind, chance.choice(names))
    return (kind, chance_expression(chance, names, depth - 1), chance_expression(chance, names, depth - 1))


def chance_condition(chance, names, depth):
    kind = chance.choice(["yes", "same", "under", "not", "both", "not", "both"] if depth else ["yes", "same", "under"])
    if kind == "yes":
        return (kind,)
    if kind == "not":
        return (kind, chance_condition(chance, names, depth - 1))
    if kind == "both":
        return (kind, chance_condition(chance, names, depth - 1), chance_condition(chance, names, depth - 1))
    return (kind, chance_expression(chance, names, 2), chance_expression(chance, names, 2))


def as_python(thing):
    """An expression or a condition in Python's own signs, for a reckoning that the program has no part in."""
    signs = {"plus": "+", "less": "-", "same": "==", "under": "<", "both": "and"}
    if thing[0] == "yes":
        return "True"
    if thing[0] == "number":
        return str(thing[1])
    if thing[0] == "box":
        return f"at[{thing[1]!r}]"
    if thing[0] == "not":
        return f"(not {as_python(thing[1])})"
    return f"({as_python(thing[1])} {signs[thing[0]]} {as_python(thing[2])})"


def reckoned(thing, boxes, standing):
    return eval(as_python(thing), {"at": {box[0]: value for box, value in zip(boxes, standing)}})


def nested(kind, leaf, depth):
    """A thing of so many of that kind within one another, both sides alike."""
    for _ in range(depth):
        leaf = (kind, leaf, leaf)
    return leaf


def box(name):
    return ("box", name)


def number(n):
    return ("number", n)


def same(name, n):
    return ("same", box(name), number(n))


def under(name, n):
    return ("under", box(name), number(n))


def both(*conditions):
    """One condition for any number of them."""
    whole = conditions[-1]
    for condition in reversed(conditions[:-1]):
        whole = ("both", condition, whole)
    return whole


def lists_in(thing):
    """All lists in a thing, itself among them."""
    found = [thing] if isinstance(thing, list) else []
    if isinstance(thing, (list, tuple)):
        for one in thing:
            found += lists_in(one)
    return found


def lock(see_price=1, force_price=9):
    """A door b (1 is open) that is turned left where a is 0 and right where it is 1; else left breaks it (b is 2)."""
    deeds = [
        ("left", 2, same("b", 0), [[("b", ("plus", box("a"), number(1)))]]),
        ("right", 3, both(same("b", 0), same("a", 1)), [[("b", number(1))]]),
        ("force", force_price, YES, [[("b", number(1))]]),
    ]
    return world_of([("a", 2), ("b", 3)], deeds, [("see", see_price, box("a"))], same("b", 0), same("b", 1))


def maze(goal=None):
    """As lock, but a can be flipped and not be seen: so one may try only once, and nothing surely works."""
    deeds = [("try", 1, same("b", 0), [[("b", ("plus", box("a"), number(1)))]]),
             ("flip", 1, YES, [[("a", ("less", number(1), box("a")))]])]
    return world_of([("a", 2), ("b", 3)], deeds, [("dull", 1, number(7)), ("door", 1, box("b"))], same("b", 0),
                    same("b", 1) if goal is None else goal)


def spans(more):
    """Each of a, b and c is known up to a span in 0 to 3, of which ten come, and d is 0 or 1: 2000 knowledges.

    Where more is asked for, one deed more leads to one knowledge more, of which nothing new comes.
    """
    deeds = []
    for name in "abc":
        up = [(name, ("plus", box(name), number(1)))]
        deeds += [("up" + name, 1, under(name, 3), [up]), ("may" + name, 1, under(name, 3), [[], up])]
    deeds.append(("set", 1, same("d", 0), [[("d", number(1))]]))
    last = both(*[same(name, 3) for name in "abc"])
    if more:
        deeds.append(("leap", 1, both(last, same("d", 1)), [[("a", number(0))], []]))
    first = both(*[same(name, 0) for name in "abcd"])
    return world_of([("a", 4), ("b", 4), ("c", 4), ("d", 2)], deeds, [], first, both(last, same("d", 0)))


def chance_small_world(chance):
    """The five of a world small enough that all its knowledges can be gone through plainly."""
    sizes = chance.choice([(2,), (3,), (4,), (2, 2), (2, 3), (3, 2), (3, 3), (2, 2, 2)])
    boxes = list(zip(("a", "b", "c"), sizes))
    names = [name for name, size in boxes]
    deeds = []
    for deed in ("go", "run", "turn")[:chance.randrange(4)]:
        ways = [[(name, chance_expression(chance, names, 1)) for name in names if chance.random() < 0.5]
                for _ in range(chance.choice([1, 1, 1, 2, 2, 3]))]
        need = YES if chance.random() < 0.6 else chance_condition(chance, names, 1)
        deeds.append((deed, chance.randrange(1, 6), need, ways))
    looks = [(look, chance.randrange(1, 4), chance_expression(chance, names, 1))
             for look in ("see", "peep")[:chance.randrange(3)]]
    begin = chance.choice([YES, chance_condition(chance, names, 1), same(chance.choice(names), 0)])
    goal = chance.choice([chance_condition(chance, names, 1), same(names[0], 1), same(names[-1], 0)])
    return boxes, deeds, looks, begin, goal


def chance_riddle(chance):
    """As chance_small_world, but with a deed for each value of a: so it helps to look, and most have a plan."""
    size = chance.randrange(2, 4)
    boxes = [("a", size), ("b", chance.randrange(2, 4))]
    deeds = []
    for deed, value in zip(("go", "run", "turn"), range(size)):
        need = chance.choice([same("a", value), same("a", value), YES, ("not", same("a", value))])
        ways = [[("b", number(chance.choice([1, 1, 1, 0])))] + [("a", chance_expression(chance, ["a", "b"], 1))] * more
                for more in chance.choice([[0], [0], [1], [0, 1]])]
        deeds.append((deed, chance.randrange(1, 9), need, ways))
    looks = [("see", chance.randrange(1, 4), chance.choice([box("a"), chance_expression(chance, ["a", "b"], 1)]))]
    return boxes, deeds, looks, chance.choice([YES, same("b", 0), same("b", 0)]), same("b", 1)


def chance_worlds(seed, many, plain=False):
    """So many chance worlds of both kinds, each with what another reckoning tells of it; plain: of one way a deed."""
    chance = random.Random(seed)
    worlds = []
    while len(worlds) < many:
        five = chance.choice([chance_small_world, chance_riddle])(chance)
        if plain:
            five = (five[0], [deed[:3] + (deed[3][:1],) for deed in five[1]], *five[2:])
        other = OtherReckoning(five)
        if other.first:
            worlds.append((world_of(*five), other))
    return worlds


class OtherReckoning:
    """A world reckoned without the program: Python's own sets, and all tables made ahead."""

    def __init__(self, five):
        boxes, deeds, looks, begin, goal = five
        self.every = list(itertools.product(*[range(size) for name, size in boxes]))
        self.first = [at for at in self.every if reckoned(begin, boxes, at)]
        self.goal = {at for at in self.every if reckoned(goal, boxes, at)}
        self.price = {thing[0]: thing[1] for thing in deeds + looks}
        self.need = {deed[0]: {at for at in self.every if reckoned(deed[2], boxes, at)} for deed in deeds}
        self.comes = {deed[0]: {at: [self.changed(boxes, way, at) for way in deed[3]] for at in self.every}
                      for deed in deeds}
        self.shows = {look[0]: {at: reckoned(look[2], boxes, at) for at in self.every} for look in looks}

    @staticmethod
    def changed(boxes, way, at):
        new = {name: reckoned(expression, boxes, at) for name, expression in way}
        return tuple(new.get(name, value) % size for (name, size), value in zip(boxes, at))

    # Knowledge, here a frozenset.

    def behind(self, known, name):
        return frozenset(new for at in known for new in self.comes[name][at])

    def parts(self, known, name):
        shown = {self.shows[name][at] for at in known}
        return {worth: frozenset(at for at in known if self.shows[name][at] == worth) for worth in shown}

    def steps(self, known):
        """(price, the knowledges that may come) of each deed that may be done and each look that parts something."""
        told = [(self.price[name], [self.behind(known, name)]) for name in self.need if known <= self.need[name]]
        told += [(self.price[name], list(self.parts(known, name).values())) for name in self.shows]
        return [step for step in told if step[1] != [known]]

    def all_knowledges(self, first):
        found = {}
        new = [frozenset(first)]
        while new:
            known = new.pop()
            if known not in found:
                found[known] = True
                if not known <= self.goal:
                    new += [one for _, coming in self.steps(known) for one in coming]
        return list(found)

    def worst_values(self, first):
        """Values by rounds: the worst price of the best plan of at most so many steps, until no more steps help."""
        values = {known: 0 if known <= self.goal else math.inf for known in self.all_knowledges(first)}
        steps = {known: self.steps(known) for known, value in values.items() if value}
        while True:
            new = dict(values)
            for known, there in steps.items():
                costs = [price + max(values[one] for one in coming) for price, coming in there]
                new[known] = min(costs, default=math.inf)
            if new == values:
                return values
            values = new

    # Pairs of a plan.

    def pairs_behind(self, plan, pair):
        """What comes of a pair, or None of a fault."""
        node, at = plan[pair[0]], pair[1]
        if node[0] == "end":
            return [] if at in self.goal else None
        if node[0] == "do":
            return [(node[2], new) for new in self.comes[node[1]][at]] if at in self.need[node[1]] else None
        followers = [follower for worth, follower in node[2] if worth == self.shows[node[1]][at]]
        return [(follower, at) for follower in followers] or None

    def all_pairs(self, plan):
        """A dict of all pairs that come, each with what comes of it."""
        found = {}
        new = [(0, at) for at in self.first]
        while new:
            pair = new.pop()
            if pair not in found:
                found[pair] = self.pairs_behind(plan, pair)
                new += found[pair] or []
        return found

    def sure_sums(self, plan, costs):
        """For each pair that comes, from which all rows end at the goal, the greatest sum of costs; reckoned by rounds."""
        pairs = self.all_pairs(plan)
        sums = {}
        grown = True
        while grown:
            new = {pair: costs(plan[pair[0]]) + max([sums[one] for one in coming], default=0)
                   for pair, coming in pairs.items()
                   if pair not in sums and coming is not None and all(one in sums for one in coming)}
            sums.update(new)
            grown = bool(new)
        return pairs, sums

    def works(self, plan):
        """Whether a plan surely works."""
        pairs, sums = self.sure_sums(plan, lambda node: 1)
        return len(pairs) == len(sums)

    def known_at(self, plan):
        """A dict of the nodes to which pairs come, each with the set of their standings."""
        known = {}
        for number, at in self.all_pairs(plan):
            known.setdefault(number, set()).add(at)
        return known

    def cost_of_node(self, node):
        return 0 if node[0] == "end" else self.price[node[1]]


def chance_plan(chance, other, size, onward):
    """A chance plan for a world; where it goes onward alone it cannot go round."""
    nodes = []
    for place in range(size - 1):
        def follower():
            return chance.randrange(place + 1 if onward else 0, size)
        kinds = ["do"] * bool(other.need) * 2 + ["look"] * bool(other.shows) + ["end"] * (chance.random() < 0.1)
        kind = chance.choice(kinds or ["end"])
        if kind == "do":
            nodes.append(("do", chance.choice(list(other.need)), follower()))
        elif kind == "look":
            name = chance.choice(list(other.shows))
            worths = [worth for worth in sorted(set(other.shows[name].values())) if chance.random() < 0.95]
            nodes.append(("look", name, tuple((worth, follower()) for worth in worths)))
        else:
            nodes.append(("end",))
    return nodes + [("end",)]


def all_nodes(other, size):
    """All nodes that a plan of that size may have."""
    nodes = [END] + [("do", name, to) for name in other.need for to in range(size)]
    for name in other.shows:
        worths = sorted(set(other.shows[name].values()))
        for ends in itertools.product([None] + list(range(size)), repeat=len(worths)):
            nodes.append(("look", name, tuple((worth, to) for worth, to in zip(worths, ends) if to is not None)))
    return nodes


def led_elsewhere(node, numbers):
    """A node whose next ones are given by a dict or list of numbers, or by a function of them."""
    where = numbers if callable(numbers) else numbers.__getitem__
    if node[0] == "do":
        return node[:2] + (where(node[2]),)
    if node[0] == "look":
        return node[:2] + (tuple((worth, where(to)) for worth, to in node[2]),)
    return node


def longer_plan(chance, other, plan, times):
    """A plan with so many nodes put in: looks and deeds ahead of others, copies, and nodes to which nothing leads.

    Where a deed is put in that does not fit, it surely works no more.
    """
    nodes = list(plan)
    for _ in range(times):
        place = chance.randrange(len(nodes))
        new = chance.choice([nodes[place], nodes[place], END])
        if other.shows and chance.random() < 0.5:
            name = chance.choice(list(other.shows))
            worths = chance.sample(sorted(set(other.shows[name].values())), len(set(other.shows[name].values())))
            new = ("look", name, tuple((worth, place) for worth in worths))
        elif other.need and chance.random() < 0.4:
            new = ("do", chance.choice(list(other.need)), place)
        share = chance.choice([0, 0.5, 0.5, 1])
        nodes = [led_elsewhere(node, lambda to: len(nodes) if to == place and chance.random() < share else to)
                 for node in nodes] + [new]
        if place == 0 and share:
            nodes = moved_nodes(nodes, [len(nodes) - 1] + list(range(len(nodes) - 1)))
    order = list(range(1, len(nodes)))
    return moved_nodes(nodes, [0] + chance.sample(order, len(order)))


def moved_nodes(nodes, order):
    """The same plan with its nodes in another order."""
    places = {number: place for place, number in enumerate(order)}
    return [led_elsewhere(nodes[number], places) for number in order]


def sure_plans(seed, many, times=6):
    """So many (world, other reckoning, plan that surely works), of all kinds, most with more nodes than they need."""
    chance = random.Random(seed)
    worlds = chance_worlds(seed, many)
    told = []
    while len(told) < many:
        world, other = chance.choice(worlds)
        plan = chance_plan(chance, other, chance.randrange(1, 8), chance.random() < 0.7)
        if not other.works(plan):
            found = found_plan(world)
            plan = found[1] if found[0] == "plan" else None
        if plan is not None:
            for _ in range(chance.randrange(times + 1)):
                longer = longer_plan(chance, other, plan, chance.randrange(1, 4))
                plan = longer if other.works(longer) else plan
            told.append((world, other, plan))
    return told
