"""Plans: nodes that do and look, and fork by what is seen; and their runs."""

from forkplan.errors import NoPlan
from forkplan.exprs import holds
from forkplan.worlds import comes_of, is_whole, named, shown


def plan_of(world, nodes):
    """A plan for a world, made of a list of nodes."""
    if len(nodes) == 0:
        raise NoPlan("there is no node")
    for node in nodes:
        refuse_followers(node, len(nodes))
        refuse_forks(node)
    # Names are looked at last: what is no plan in any world is refused as such.
    for node in nodes:
        refuse_name(world, node)
    return list(nodes)


def run(world, plan, standing, choices):
    """A run of a plan from a standing, as a tuple (end, steps, standing)."""
    player = Player(Course(world, plan), standing, choices)
    end = None
    while end is None:
        end = player.go_on()
    return (end, player.steps, player.standing)


def followers_of(node):
    """The numbers of the nodes to which a node leads."""
    if node[0] == "end":
        return []
    if node[0] == "do":
        return [node[2]]
    return [follower for worth, follower in node[2]]


def is_node_number(number, size):
    """Whether a number is that of a node in a plan of that size."""
    return is_whole(number) and number >= 0 and number < size


def refuse_followers(node, size):
    """Refuses a node that leads to what is no node's number in a plan of that size."""
    for follower in followers_of(node):
        if not is_node_number(follower, size):
            raise NoPlan("a node leads to what is no node's number")


def refuse_forks(node):
    """Refuses a look with two forks for one worth."""
    if node[0] == "look" and len(dict(node[2])) < len(node[2]):
        raise NoPlan("a look has two forks for one worth")


def refuse_name(world, node):
    """Refuses a node that names what is no deed, or no look."""
    if node[0] != "end":
        thing_named_at(world, node)


def thing_named_at(world, node):
    """The deed or the look that a node names."""
    if node[0] == "do":
        return named(world[1], node[1], "deed")
    return named(world[2], node[1], "look")


class Course:
    """A plan in a world, with all that was reckoned of them: so nothing is reckoned twice for one answer."""

    def __init__(self, world, plan):
        self.world = world
        self.nodes = plan
        self.forks = [dict(node[2]) if node[0] == "look" else {} for node in plan]
        self.goals = {}
        self.needs = {}
        self.comings = {}
        self.showings = {}

    def goal_holds(self, standing):
        """Whether the goal holds at a standing."""
        if standing not in self.goals:
            self.goals[standing] = holds(self.world[4], self.world[0], standing)
        return self.goals[standing]

    def need_holds(self, name, standing):
        """Whether a deed's need holds at a standing."""
        key = (name, standing)
        if key not in self.needs:
            need = named(self.world[1], name, "deed")[2]
            self.needs[key] = holds(need, self.world[0], standing)
        return self.needs[key]

    def comes(self, name, standing):
        """What comes of a deed at a standing, way by way."""
        key = (name, standing)
        if key not in self.comings:
            self.comings[key] = comes_of(self.world, name, standing)
        return self.comings[key]

    def shows(self, name, standing):
        """What a look shows at a standing."""
        key = (name, standing)
        if key not in self.showings:
            self.showings[key] = shown(self.world, name, standing)
        return self.showings[key]


class Player:
    """Plays one run of a plan, node by node."""

    def __init__(self, course, standing, choices):
        self.course = course
        self.standing = standing
        self.choices = choices
        self.steps = []
        self.number = 0
        self.deeds_done = 0
        self.looked = {}

    def go_on(self):
        """Goes on by one node, and tells the run's end, or None where it has not ended."""
        node = self.course.nodes[self.number]
        if node[0] == "end":
            return "goal" if self.course.goal_holds(self.standing) else "short"
        if node[0] == "do":
            return self.do_deed(node[1], node[2])
        return self.do_look(node[1])

    def do_deed(self, name, follower):
        """Does a deed in the way that its choice tells."""
        if not self.course.need_holds(name, self.standing):
            return "need"
        if self.deeds_done == len(self.choices):
            return "open"
        coming = self.course.comes(name, self.standing)
        way = self.choices[self.deeds_done] % len(coming)
        self.steps.append((name, way))
        self.standing = coming[way]
        self.number = follower
        self.deeds_done += 1
        self.looked = {}
        return None

    def do_look(self, name):
        """Looks, and takes the fork for what is shown."""
        if self.number in self.looked:
            return "round"
        self.looked[self.number] = True
        worth = self.course.shows(name, self.standing)
        self.steps.append((name, worth))
        forks = self.course.forks[self.number]
        if worth not in forks:
            return "lost"
        self.number = forks[worth]
        return None
