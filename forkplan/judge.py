"""Plans judged: whether a plan surely works, with a table that shows it, or a run in which it does not."""

from forkplan.errors import NotSure
from forkplan.known import first_known
from forkplan.plans import Course, is_node_number, thing_named_at
from forkplan.worlds import is_whole, standings


def judged(world, plan):
    """What is told of a plan, whose first is "sure", "fails" or "endless"."""
    walk = walk_of(world, plan)
    if walk.fault is not None:
        return ("fails",) + run_in(plan, walk.row_to(walk.fault))
    ranks = greatest_sums(walk.coming, [0 if node[0] == "end" else 1 for node in plan])
    if len(ranks) < len(walk.coming):
        ring = ring_beside(walk.coming, ranks)
        return ("endless",) + run_in(plan, walk.row_to(ring[0][0])) + (choices_in(plan, ring),)
    return ("sure", sorted([pair + (rank,) for pair, rank in ranks.items()]))


def right_table(world, plan, table):
    """Whether a table is right: then the plan surely works."""
    every = dict([(standing, True) for standing in standings(world)])
    ranks = {}
    for number, standing, rank in table:
        pair = (number, standing)
        if not is_node_number(number, len(plan)) or standing not in every or not is_rank(rank) or pair in ranks:
            return False
        ranks[pair] = rank
    for pair in first_pairs(world):
        if pair not in ranks:
            return False
    course = Course(world, plan)
    for pair, rank in ranks.items():
        if not leads_down(pairs_behind(course, pair), ranks, rank):
            return False
    return True


def worst_price(world, plan):
    """The greatest sum of prices of any run of a plan that surely works."""
    return max(sure_prices(world, plan))


def sure_prices(world, plan):
    """The greatest sum of prices of any run from each standing of the first knowledge, in their order."""
    walk = walk_of(world, plan)
    if walk.fault is not None:
        raise NotSure("the plan does not surely work")
    sums = greatest_sums(walk.coming, [price_at(world, node) for node in plan])
    if len(sums) < len(walk.coming):
        raise NotSure("the plan may go on for ever")
    return [sums[pair] for pair in first_pairs(world)]


def first_pairs(world):
    """The first pairs of any plan for a world."""
    return [(0, standing) for standing in first_known(world)]


def pairs_behind(course, pair):
    """The pairs that come of a pair, way by way; None where it is a fault."""
    node = course.nodes[pair[0]]
    standing = pair[1]
    if node[0] == "end":
        return [] if course.goal_holds(standing) else None
    if node[0] == "do":
        if not course.need_holds(node[1], standing):
            return None
        return [(node[2], coming) for coming in course.comes(node[1], standing)]
    worth = course.shows(node[1], standing)
    forks = course.forks[pair[0]]
    return [(forks[worth], standing)] if worth in forks else None


def walk_of(world, plan):
    """The walk through all pairs of a plan, up to the first fault."""
    course = Course(world, plan)
    return Walk(first_pairs(world), lambda pair: pairs_behind(course, pair))


class Walk:
    """All places that come of the first ones, or, where one is a fault, those that were found up to it.

    What comes of a place, way by way, is told by a function, which tells None of a fault. Places that come in fewer
    steps are found first. coming holds what comes of each place; ahead the place and the way by which each was found.
    """

    def __init__(self, first, places_behind):
        self.coming = {}
        self.ahead = dict([(place, None) for place in first])
        self.fault = None
        found = list(first)
        while len(self.coming) < len(found) and self.fault is None:
            place = found[len(self.coming)]
            followers = places_behind(place)
            if followers is None:
                self.fault = place
            else:
                self.coming[place] = followers
                found.extend(self.new_ones(place, followers))

    def new_ones(self, place, followers):
        """Those that come of a place and were not found so far."""
        found = []
        for way, follower in enumerate(followers):
            if follower not in self.ahead:
                self.ahead[follower] = (place, way)
                found.append(follower)
        return found

    def row_to(self, place):
        """The row of places, from a first one on, by which a place was found, each with the way taken there.

        The place itself stands at the end, with None in the place of a way.
        """
        row = [(place, None)]
        while self.ahead[place] is not None:
            row.append(self.ahead[place])
            place = self.ahead[place][0]
        row.reverse()
        return row


def run_in(plan, row):
    """The standing and the choices of a run through a row of pairs; the last one's way is not taken."""
    return (row[0][0][1], choices_in(plan, row[:-1]))


def choices_in(plan, row):
    """The choices of a row of pairs with the ways taken there: those of its deeds."""
    return [way for pair, way in row if plan[pair[0]][0] == "do"]


def greatest_sums(coming, costs):
    """The greatest sum of the costs of a pair's node and of those behind it one of the other, for each pair.

    Pairs from which some row goes on for ever have none. It is reckoned from the last pairs back.
    """
    sources = dict([(pair, []) for pair in coming])
    wanting = {}
    for pair, followers in coming.items():
        wanting[pair] = len(followers)
        for follower in followers:
            sources[follower].append(pair)
    ready = [pair for pair in coming if wanting[pair] == 0]
    sums = {}
    while len(sums) < len(ready):
        pair = ready[len(sums)]
        sums[pair] = costs[pair[0]] + max([sums[follower] for follower in coming[pair]], default=0)
        for source in sources[pair]:
            wanting[source] -= 1
            if wanting[source] == 0:
                ready.append(source)
    return sums


def ring_beside(coming, sums):
    """Pairs that come of one another in a ring, each with the way taken there, where some pair has no sum.

    Of each pair without a sum comes another one: so the row of such pairs comes back to itself.
    """
    pair = [pair for pair in coming if pair not in sums][0]
    row = []
    places = {}
    while pair not in places:
        places[pair] = len(row)
        way = [way for way, follower in enumerate(coming[pair]) if follower not in sums][0]
        row.append((pair, way))
        pair = coming[pair][way]
    return row[places[pair]:]


def price_at(world, node):
    """The price of what is done at a node."""
    return 0 if node[0] == "end" else thing_named_at(world, node)[1]


def is_rank(rank):
    """Whether a rank is a whole number from 0 on."""
    return is_whole(rank) and rank >= 0


def leads_down(followers, ranks, rank):
    """Whether a pair of that rank is no fault, and all that comes of it is there with lesser ranks."""
    if followers is None:
        return False
    for follower in followers:
        if follower not in ranks or ranks[follower] >= rank:
            return False
    return True
