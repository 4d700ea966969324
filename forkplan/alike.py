"""Plans alike: whether two plans do the same deeds, or a run in which they part."""

from forkplan.judge import Walk, sure_prices
from forkplan.known import first_known
from forkplan.plans import Course


def told_alike(world, one, other):
    """("alike",) of two plans that surely work, or ("unlike", standing, choices) with as few choices as any such."""
    sure_prices(world, one)
    sure_prices(world, other)
    course = Course(world, one)
    beside = Course(world, other)
    first = [place_of(course, 0, beside, 0, standing) for standing in first_known(world)]
    # Each step of this walk is one deed: so where the plans part with the fewest choices is found first.
    walk = Walk(first, lambda place: places_behind(course, beside, place))
    if walk.fault is None:
        return ("alike",)
    row = walk.row_to(walk.fault)
    return ("unlike", row[0][0][2], [way for place, way in row[:-1]])


def place_of(course, number, beside, other_number, standing):
    """A tuple of the two nodes, each a deed or an end, to which two plans come by looks alone, and the standing."""
    return (past_looks(course, number, standing), past_looks(beside, other_number, standing), standing)


def past_looks(course, number, standing):
    """The number of the deed or the end to which a plan that surely works comes from a node by looks alone."""
    node = course.nodes[number]
    while node[0] == "look":
        number = course.forks[number][course.shows(node[1], standing)]
        node = course.nodes[number]
    return number


def places_behind(course, beside, place):
    """The places behind the deed that both plans do, way by way; [] where both have ended, None where they part."""
    standing = place[2]
    node = course.nodes[place[0]]
    other = beside.nodes[place[1]]
    if node[:2] != other[:2]:
        return None
    if node[0] == "end":
        return []
    return [place_of(course, node[2], beside, other[2], coming) for coming in course.comes(node[1], standing)]
