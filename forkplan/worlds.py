"""Worlds: boxes that nobody sees, deeds that may come out in several ways, looks that show something."""

from forkplan.errors import NoName, NoWorld
from forkplan.exprs import holds, names_in, values_by_name, worth, worth_by

LEAST_SIZE = 2
GREATEST_SIZE = 5
LEAST_PRICE = 1
# These words have a meaning of their own where conditions are written.
WORDS_OF_CONDITIONS = ("not", "and", "yes")


def world_of(boxes, deeds, looks, begin, goal):
    """A world made of these five, none of whose lists is one that was handed in."""
    refuse_boxes(boxes)
    refuse_twice([deed[0] for deed in deeds] + [look[0] for look in looks], "deed or look")
    names = [name for name, size in boxes]
    for name, price, need, ways in deeds:
        refuse_price(name, price)
        refuse_strange_names(need, names)
        refuse_ways(name, ways, names)
    for name, price, expression in looks:
        refuse_price(name, price)
        refuse_strange_names(expression, names)
    refuse_strange_names(begin, names)
    refuse_strange_names(goal, names)
    refuse_begin(begin, boxes)
    return (list(boxes), [copied_deed(deed) for deed in deeds], list(looks), begin, goal)


def standings(world):
    """All standings of a world, sorted."""
    return standings_of_boxes(world[0])


def comes_of(world, name, standing):
    """What comes of a deed at a standing, way by way, also where its need does not hold."""
    ways = named(world[1], name, "deed")[3]
    return [behind_way(world[0], way, standing) for way in ways]


def shown(world, name, standing):
    """What a look shows at a standing."""
    return worth(named(world[2], name, "look")[2], world[0], standing)


def named(things, name, kind):
    """The deed or look of that name among its like."""
    for thing in things:
        if thing[0] == name:
            return thing
    raise NoName(f"no {kind} is called {name!r}")


def standings_of_boxes(boxes):
    """All standings of some boxes; as each box's values go up in turn, they come sorted."""
    rows = [()]
    for name, size in boxes:
        longer = []
        for row in rows:
            longer.extend([row + (value,) for value in range(size)])
        rows = longer
    return rows


def behind_way(boxes, way, standing):
    """The standing behind one way of a deed."""
    sizes = dict(boxes)
    ahead = values_by_name(boxes, standing)
    behind = dict(ahead)
    for name, expression in way:
        # All changes come at once: none may see what another one of this way has put.
        behind[name] = worth_by(expression, ahead) % sizes[name]
    return tuple([behind[name] for name, size in boxes])


def copied_deed(deed):
    """A deed with lists of its own; the tuples in them cannot change."""
    return (deed[0], deed[1], deed[2], [list(way) for way in deed[3]])


def is_whole(thing):
    """Whether a thing is a whole number, which a truth is not."""
    return isinstance(thing, int) and not isinstance(thing, bool)


def refuse_boxes(boxes):
    """Refuses boxes that are none, twice there, badly called or of a wrong size."""
    if len(boxes) == 0:
        raise NoWorld("there is no box")
    refuse_twice([name for name, size in boxes], "box")
    for name, size in boxes:
        if name in WORDS_OF_CONDITIONS:
            raise NoWorld(f"a box is called {name!r}")
        if not is_whole(size) or size < LEAST_SIZE or size > GREATEST_SIZE:
            raise NoWorld(f"the box {name!r} has a size other than 2 to 5")


def refuse_twice(names, kind):
    """Refuses names one of which is there twice."""
    if len(set(names)) < len(names):
        raise NoWorld(f"a name of a {kind} is there twice")


def refuse_price(name, price):
    """Refuses the price of a deed or a look that is other than told."""
    if not is_whole(price) or price < LEAST_PRICE:
        raise NoWorld(f"the price of {name!r} is no whole number from 1 on")


def refuse_ways(deed_name, ways, names):
    """Refuses the ways of a deed that are none, or one that changes a box twice or what is no box."""
    if len(ways) == 0:
        raise NoWorld(f"the deed {deed_name!r} has no way")
    for way in ways:
        refuse_twice([name for name, expression in way], "box in one way")
        for name, expression in way:
            refuse_strange_name(name, names)
            refuse_strange_names(expression, names)


def refuse_strange_name(name, names):
    """Refuses a name that is no box's."""
    if name not in names:
        raise NoWorld(f"no box is called {name!r}")


def refuse_strange_names(thing, names):
    """Refuses an expression or a condition that names what is no box."""
    for name in names_in(thing):
        refuse_strange_name(name, names)


def refuse_begin(begin, boxes):
    """Refuses a begin that holds in no standing."""
    for standing in standings_of_boxes(boxes):
        if holds(begin, boxes, standing):
            return
    raise NoWorld("begin holds in no standing")
