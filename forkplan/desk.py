"""The desk: a world and a plan are told row by row, and what is asked of them is answered by texts."""

from forkplan.errors import NoOrder, NotSure
from forkplan.find import found_plan
from forkplan.judge import worst_price
from forkplan.plans import plan_of
from forkplan.rows import least_row
from forkplan.shorter import shorter
from forkplan.texts import is_word, read_plan, read_world, shown_plan
from forkplan.values import what_it_is_worth


class Desk:
    """Keeps the rows of a world and of a plan; what they write is looked at only when it is wanted."""

    def __init__(self):
        self.world_rows = []
        self.plan_rows = []

    def told(self, order):
        """The answer to an order."""
        sides = order.partition(" ")
        if sides[1] == " " and sides[0] in ("world", "plan") and "\n" not in sides[2]:
            return self.put_row(sides[0], sides[2])
        if sides[0] == "worth" and is_word(sides[2]):
            return self.told_worth(sides[2])
        if order == "clear":
            return self.put_away()
        if order == "judge":
            return self.told_judged()
        if order == "find":
            return self.told_found()
        if order == "row":
            return self.told_row()
        if order == "short":
            return self.told_shorter()
        if order == "show":
            return shown_plan(self.written_plan(self.written_world()))
        raise NoOrder("the row is no order")

    def put_row(self, kind, row):
        """Puts a row behind those of the world or of the plan."""
        if kind == "world":
            self.world_rows.append(row)
            return "rows " + str(len(self.world_rows))
        self.plan_rows.append(row)
        return "nodes " + str(len(self.plan_rows))

    def put_away(self):
        """Puts all rows away."""
        self.world_rows = []
        self.plan_rows = []
        return "cleared"

    def told_judged(self):
        """Whether the plan surely works, and for how much at most."""
        world = self.written_world()
        plan = self.written_plan(world)
        try:
            price = worst_price(world, plan)
        except NotSure:
            return "fails"
        return f"sure at most {price}"

    def told_found(self):
        """The worst price of the best plan, which becomes the desk's."""
        told = found_plan(self.written_world())
        if told[0] == "trap":
            return "trap"
        self.take_plan(told[1])
        return "plan for " + str(told[2])

    def told_row(self):
        """The names of the least row."""
        row = least_row(self.written_world())
        if row is None:
            return "none"
        return "nothing" if row == [] else " ".join(row)

    def told_shorter(self):
        """How many nodes the plan has and the shorter one, which becomes the desk's."""
        world = self.written_world()
        plan = self.written_plan(world)
        short = shorter(world, plan)
        self.take_plan(short)
        return "nodes " + str(len(plan)) + " to " + str(len(short))

    def told_worth(self, name):
        """What a look or a deed is worth."""
        values = what_it_is_worth(self.written_world(), name)
        return " ".join(["none" if value is None else str(value) for value in values])

    def written_world(self):
        """The world that the rows write."""
        return read_world("\n".join(self.world_rows))

    def written_plan(self, world):
        """The plan that the rows write for a world."""
        return plan_of(world, read_plan("\n".join(self.plan_rows)))

    def take_plan(self, plan):
        """Makes a plan the desk's: its rows take the place of those so far."""
        self.plan_rows = shown_plan(plan).split("\n")
