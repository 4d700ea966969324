"""Shorter plans: what is known at each node, and plans without what they do or look at for nothing."""

from forkplan.judge import Walk, first_pairs, pairs_behind, sure_prices
from forkplan.plans import Course, followers_of


def known_at(world, plan):
    """For each node of a plan the standings of all pairs that come there, sorted; [] where none comes."""
    course = Course(world, plan)
    # Of a fault nothing comes, but the walk is to go on beside it.
    walk = Walk(first_pairs(world), lambda pair: pairs_behind(course, pair) or [])
    known = [[] for node in plan]
    for number, standing in sorted(walk.coming):
        known[number].append(standing)
    return known


def shorter(world, plan):
    """A plan that surely works, made shorter until nothing changes."""
    sure_prices(world, plan)
    longer = None
    while plan != longer:
        longer = plan
        plan = shorter_once(world, longer)
    return plan


def shorter_once(world, plan):
    """A plan that surely works, made shorter by what is known at its nodes as it is."""
    course = Course(world, plan)
    known = known_at(world, plan)
    nodes = [without_spare_forks(course, node, there) for node, there in zip(plan, known)]
    past = [place_past(course, node, there) for node, there in zip(nodes, known)]
    kept = [kept_place(past, number) for number in range(len(plan))]
    found = found_from([relinked(node, kept) for node in nodes], kept[0])
    return found_from(put_together(found), 0)


def without_spare_forks(course, node, known):
    """A node without forks for what is never shown with some knowledge, a look's forks sorted by what is shown."""
    if node[0] != "look":
        return node
    worths = dict([(course.shows(node[1], standing), True) for standing in known])
    return ("look", node[1], tuple(sorted([fork for fork in node[2] if fork[0] in worths])))


def place_past(course, node, known):
    """The number to which a node leads that is left out, or None where it is kept.

    Nodes to which nothing comes are kept so far, since only they might lead past one another in a ring.
    """
    if len(known) == 0:
        return None
    if node[0] == "look" and len(node[2]) == 1:
        return node[2][0][1]
    if node[0] == "do" and changes_nothing(course, node[1], known):
        return node[2]
    return None


def changes_nothing(course, name, known):
    """Whether a deed leaves each standing of some knowledge as it is, in every way."""
    for standing in known:
        for coming in course.comes(name, standing):
            if coming != standing:
                return False
    return True


def kept_place(past, number):
    """The number of the first node that is kept, from one on."""
    while past[number] is not None:
        number = past[number]
    return number


def relinked(node, numbers):
    """A node that leads to other numbers, each given by the one to which it led."""
    if node[0] == "end":
        return node
    if node[0] == "do":
        return ("do", node[1], numbers[node[2]])
    return ("look", node[1], tuple([(worth, numbers[follower]) for worth, follower in node[2]]))


def found_from(nodes, first):
    """Those nodes to which a way leads from the first one, numbered in the order in which they are found."""
    found = [first]
    numbers = {first: 0}
    done = 0
    while done < len(found):
        node = nodes[found[done]]
        for follower in followers_of(node):
            if follower not in numbers:
                numbers[follower] = len(found)
                found.append(follower)
        done += 1
    return [relinked(nodes[number], numbers) for number in found]


def put_together(nodes):
    """The nodes with one for all those that do alike; the first one stays the first."""
    kinds = [0 for node in nodes]
    together = {}
    grown = True
    while grown:
        # Nodes are taken for alike until they are seen to part: so as many as can be are put together.
        finer = {}
        kinds = [finer.setdefault(relinked(node, kinds), len(finer)) for node in nodes]
        grown = len(finer) > len(together)
        together = finer
    return list(together)
