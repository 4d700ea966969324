"""Knowledge: which standings may be, as far as one knows."""

from forkplan.exprs import holds, worth
from forkplan.worlds import behind_way, named, standings


def first_known(world):
    """The first knowledge of a world: all standings at which begin holds, sorted."""
    return [standing for standing in standings(world) if holds(world[3], world[0], standing)]


def at_goal(world, known):
    """Whether the goal holds at each standing of some knowledge."""
    return holds_at_each(world[4], world[0], known)


def may_do(world, known, name):
    """Whether a deed's need holds at each standing of some knowledge."""
    return holds_at_each(named(world[1], name, "deed")[2], world[0], known)


def behind(world, known, name):
    """The knowledge behind a deed: all that comes of it at any standing of some knowledge."""
    ways = named(world[1], name, "deed")[3]
    coming = []
    for standing in known:
        coming.extend([behind_way(world[0], way, standing) for way in ways])
    return sorted(set(coming))


def parts(world, known, name):
    """The parts of some knowledge by a look: tuples (shown, knowledge), sorted by what is shown."""
    expression = named(world[2], name, "look")[2]
    by_worth = {}
    for standing in known:
        by_worth.setdefault(worth(expression, world[0], standing), []).append(standing)
    return sorted(by_worth.items())


def holds_at_each(condition, boxes, known):
    """Whether a condition holds at each standing of some knowledge."""
    for standing in known:
        if not holds(condition, boxes, standing):
            return False
    return True
