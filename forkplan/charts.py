"""Charts: worlds whose knowledges are whole numbers with a bit for each standing, so that they are quick to compare."""

from forkplan.known import at_goal, behind, may_do, parts
from forkplan.worlds import standings


class Chart:
    """A world, charted for one answer: in its methods knowledge is such a number, but where a list is told."""

    def __init__(self, world):
        every = standings(world)
        self.bits = bits_for(every)
        self.goal = self.number_of([standing for standing in every if at_goal(world, [standing])])
        self.deeds = [(deed[0], deed[1]) + self.charted_deed(world, deed[0]) for deed in world[1]]
        self.looks = [(look[0], look[1], self.charted_look(world, look[0])) for look in world[2]]

    def charted_deed(self, world, name):
        """The number of the standings at which a deed's need holds, and a dict of what comes of it at each one."""
        need = self.number_of([standing for standing in self.bits if may_do(world, [standing], name)])
        coming = [(standing, self.number_of(behind(world, [standing], name))) for standing in self.bits]
        return (need, dict(coming))

    def charted_look(self, world, name):
        """The parts of all standings by a look."""
        return [(worth, self.number_of(part)) for worth, part in parts(world, list(self.bits), name)]

    def number_of(self, known):
        """The number of a list of standings; what is no standing of the world is left out."""
        number = 0
        for standing in known:
            number |= self.bits.get(standing, 0)
        return number

    def listed(self, number):
        """The list of standings of some knowledge, sorted."""
        return [standing for standing, bit in self.bits.items() if number & bit]

    def is_knowledge(self, known):
        """Whether a list of standings is knowledge: of this world's, sorted, each once, not []."""
        return len(known) > 0 and known == self.listed(self.number_of(known))

    def is_goal(self, known):
        """Whether knowledge is at the goal."""
        return is_within(known, self.goal)

    def steps_from(self, known):
        """The deeds that may be done with knowledge, and the looks with more than one part.

        They are tuples (name, price, coming), coming a list of tuples (shown, knowledge); shown is None behind a deed.
        A look with one part leaves the knowledge as it was, so it is no step.
        """
        there = self.listed(known)
        steps = []
        for name, price, need, by_standing in self.deeds:
            if is_within(known, need):
                steps.append((name, price, [(None, joined([by_standing[standing] for standing in there]))]))
        for name, price, shares in self.looks:
            coming = [(worth, known & share) for worth, share in shares if known & share]
            if len(coming) > 1:
                steps.append((name, price, coming))
        return steps


def bits_for(things):
    """A dict of things, each with a bit of its own."""
    bits = {}
    bit = 1
    for thing in things:
        bits[thing] = bit
        bit += bit
    return bits


def is_within(known, other):
    """Whether one knowledge lies within another, which has all its standings."""
    return (known & other) == known


def joined(knowns):
    """All standings of several knowledges."""
    whole = 0
    for known in knowns:
        whole |= known
    return whole
