"""Charts: worlds whose knowledges are whole numbers, so that they are quick to compare and to look up."""

from forkplan.known import at_goal, behind, may_do, parts
from forkplan.worlds import shown, standings


class Chart:
    """A world, charted for one answer: in its methods knowledge is a number with a bit for each standing."""

    def __init__(self, world):
        every = standings(world)
        self.bits = bits_for(every)
        self.goal = self.number_of([standing for standing in every if at_goal(world, [standing])])
        self.deeds = [(deed[0], deed[1]) + self.charted_deed(world, deed[0]) for deed in world[1]]
        self.looks = [(look[0], look[1], self.charted_look(world, look[0])) for look in world[2]]

    def charted_deed(self, world, name):
        """The number of the standings at which a deed's need holds, and a dict of what comes of it at each one."""
        need = self.number_of([standing for standing in self.bits if may_do(world, [standing], name)])
        coming = [(standing, self.number_of(behind(world, [standing], name))) for standing in self.bits]
        return (need, dict(coming))

    def charted_look(self, world, name):
        """The parts of all standings by a look."""
        return [(worth, self.number_of(part)) for worth, part in parts(world, list(self.bits), name)]

    def number_of(self, known):
        """The number of a list of standings; what is no standing of the world is left out."""
        number = 0
        for standing in known:
            number |= self.bits.get(standing, 0)
        return number

    def listed(self, number):
        """The list of standings of some knowledge, sorted."""
        return [standing for standing, bit in self.bits.items() if number & bit]

    def is_knowledge(self, known):
        """Whether a list of standings is knowledge: of this world's, sorted, each once, not []."""
        return len(known) > 0 and known == self.listed(self.number_of(known))

    def is_goal(self, known):
        """Whether knowledge is at the goal."""
        return is_within(known, self.goal)

    def steps_from(self, known):
        """The deeds that may be done with knowledge, and the looks with more than one part.

        They are tuples (name, price, coming), coming a list of tuples (shown, knowledge); shown is None behind a deed.
        A look with one part leaves the knowledge as it was, so it is no step.
        """
        there = self.listed(known)
        steps = []
        for name, price, need, by_standing in self.deeds:
            if is_within(known, need):
                steps.append((name, price, [(None, joined([by_standing[standing] for standing in there]))]))
        for name, price, shares in self.looks:
            coming = [(worth, known & share) for worth, share in shares if known & share]
            if len(coming) > 1:
                steps.append((name, price, coming))
        return steps

    def together(self, costs):
        """What the parts of a look cost together in the worst case."""
        return max(costs)


class WeightedChart:
    """A world whose deeds have one way each, charted for one answer about weighted knowledges.

    Weighted knowledge is a row of tuples (place, weight), a standing's place being that among all standings. In the
    methods it is the number under which its row was found first, since long rows are slow to look up.
    """

    def __init__(self, world):
        every = standings(world)
        self.places = dict([(standing, place) for place, standing in enumerate(every)])
        self.goal = [at_goal(world, [standing]) for standing in every]
        self.deeds = [(deed[0], deed[1]) + self.charted_deed(world, deed[0]) for deed in world[1]]
        self.looks = [(look[0], look[1], [shown(world, look[0], standing) for standing in every]) for look in world[2]]
        self.rows = []
        self.numbers = {}

    def charted_deed(self, world, name):
        """Whether a deed's need holds at each standing, and the place of what comes of it there."""
        need = [may_do(world, [standing], name) for standing in self.places]
        targets = [self.places[behind(world, [standing], name)[0]] for standing in self.places]
        return (need, targets)

    def number_of(self, row):
        """The number of weighted knowledge, which is new where its row was not found so far."""
        number = self.numbers.setdefault(row, len(self.rows))
        if number == len(self.rows):
            self.rows.append(row)
        return number

    def first_number(self, known, weights):
        """The number of knowledge whose standings have these weights."""
        return self.number_of(tuple([(self.places[standing], weight) for standing, weight in zip(known, weights)]))

    def is_goal(self, known):
        """Whether weighted knowledge is at the goal."""
        return all([self.goal[place] for place, weight in self.rows[known]])

    def steps_from(self, known):
        """As those of a Chart, but each price is counted as often as the weights together tell."""
        row = self.rows[known]
        total = sum([weight for place, weight in row])
        steps = []
        for name, price, need, targets in self.deeds:
            if all([need[place] for place, weight in row]):
                steps.append((name, price * total, [(None, self.number_of(moved(row, targets)))]))
        for name, price, shows in self.looks:
            shares = parted(row, shows)
            if len(shares) > 1:
                steps.append((name, price * total, [(worth, self.number_of(share)) for worth, share in shares]))
        return steps

    def together(self, costs):
        """What the parts of a look cost together, each by its own weights."""
        return sum(costs)


def bits_for(things):
    """A dict of things, each with a bit of its own."""
    bits = {}
    bit = 1
    for thing in things:
        bits[thing] = bit
        bit += bit
    return bits


def is_within(known, other):
    """Whether one knowledge lies within another, which has all its standings."""
    return (known & other) == known


def joined(knowns):
    """All standings of several knowledges."""
    whole = 0
    for known in knowns:
        whole |= known
    return whole


def moved(row, targets):
    """The row of weighted knowledge behind a deed: weights that come to one place are put together."""
    weights = {}
    for place, weight in row:
        target = targets[place]
        weights[target] = weights.get(target, 0) + weight
    return tuple(sorted(weights.items()))


def parted(row, shows):
    """The parts of weighted knowledge by a look, as a list of tuples (shown, row)."""
    shares = {}
    for placed in row:
        shares.setdefault(shows[placed[0]], []).append(placed)
    return sorted([(worth, tuple(share)) for worth, share in shares.items()])
