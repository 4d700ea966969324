"""Plans found: one that surely works with the least price in the worst case, or a trap that shows there is none."""

from forkplan.charts import Chart, is_within
from forkplan.errors import TooMany
from forkplan.known import first_known
from forkplan.worlds import is_whole

MOST_KNOWLEDGES = 2000


def found_plan(world):
    """What is told of a world: ("plan", plan, price, numbers) or ("trap", trap)."""
    chart = Chart(world)
    first = chart.number_of(first_known(world))
    steps = steps_of_all(chart, first)
    best = best_steps(chart, steps)
    if first not in best:
        return ("trap", sorted([chart.listed(known) for known in steps if known not in best]))
    numbers = [(chart.listed(known), best[known][0] if known in best else None) for known in steps]
    return ("plan", plan_by(chart, best, first), best[first][0], sorted(numbers))


def worst_value(world, known):
    """The least worst price of any plan that surely works from some knowledge, or None where there is none."""
    chart = Chart(world)
    first = chart.number_of(known)
    best = best_steps(chart, steps_of_all(chart, first))
    return best[first][0] if first in best else None


def right_numbers(world, numbers):
    """Whether numbers are right: then no plan that surely works costs less than the first knowledge's number."""
    chart = Chart(world)
    by_known = {}
    for listed, number in numbers:
        known = chart.number_of(listed)
        if not chart.is_knowledge(listed) or known in by_known or not is_number(number):
            return False
        by_known[known] = number
    if chart.number_of(first_known(world)) not in by_known:
        return False
    for known in by_known:
        if not number_fits(chart, by_known, known):
            return False
    return True


def right_trap(world, trap):
    """Whether a trap is right: then no plan surely works."""
    chart = Chart(world)
    for listed in trap:
        if not chart.is_knowledge(listed):
            return False
    members = sorted(set([chart.number_of(listed) for listed in trap]))
    family = Family(members)
    if not family.has_one_within(chart.number_of(first_known(world))):
        return False
    for known in members:
        if chart.is_goal(known) or not family.holds_in(chart.steps_from(known)):
            return False
    return True


def steps_of_all(chart, first):
    """A dict of all knowledges that come from the first one, each with its steps; of one at the goal there are none."""
    found = [first]
    seen = {first: True}
    steps = {}
    while len(steps) < len(found):
        known = found[len(steps)]
        steps[known] = [] if chart.is_goal(known) else chart.steps_from(known)
        for name, price, coming in steps[known]:
            for worth, behind in coming:
                if behind not in seen:
                    seen[behind] = True
                    found.append(behind)
        if len(found) > MOST_KNOWLEDGES:
            raise TooMany("more than two thousand knowledges come")
    return steps


def best_steps(chart, steps):
    """A dict of the knowledges from which some plan surely works: the least value and the step to begin with of each.

    The step is None at the goal. The value of a step is its price and what its chart makes of the values behind it
    together, which is no less than any of them: so knowledges can be settled by rising value.
    """
    sources = sources_of_all(steps)
    unsettled = {}
    best = {}
    waiting = [(0, known, None) for known in steps if chart.is_goal(known)]
    while len(waiting) > 0:
        least = waiting.pop()
        known = least[1]
        if known not in best:
            best[known] = (least[0], least[2])
            for source, step in sources[known]:
                key = (source, step[0])
                unsettled[key] = unsettled.get(key, len(step[2])) - 1
                if unsettled[key] == 0:
                    together = chart.together([best[behind][0] for worth, behind in step[2]])
                    put_in(waiting, (step[1] + together, source, step))
    return best


def sources_of_all(steps):
    """A dict of all knowledges, each with the list of (knowledge, step) of which it comes."""
    sources = dict([(known, []) for known in steps])
    for known, steps_there in steps.items():
        for step in steps_there:
            for worth, behind in step[2]:
                sources[behind].append((known, step))
    return sources


def put_in(waiting, entry):
    """Puts an entry into a list that is kept by falling value, the least one at the end."""
    low = 0
    high = len(waiting)
    while low < high:
        middle = (low + high) // 2
        if waiting[middle][0] > entry[0]:
            low = middle + 1
        else:
            high = middle
    waiting.insert(low, entry)


def plan_by(chart, best, first):
    """The plan that takes the best step with each knowledge, a node for each one; all at the goal share one end."""
    found = [shared_end(chart, first)]
    places = {found[0]: 0}
    plan = []
    while len(plan) < len(found):
        known = found[len(plan)]
        if known is None:
            plan.append(("end",))
        else:
            step = best[known][1]
            targets = [(worth, shared_end(chart, behind)) for worth, behind in step[2]]
            for worth, target in targets:
                if target not in places:
                    places[target] = len(found)
                    found.append(target)
            plan.append(node_of(step[0], [(worth, places[target]) for worth, target in targets]))
    return plan


def shared_end(chart, known):
    """The knowledge whose node serves for some knowledge: None for all that is at the goal, which ends at one node."""
    return None if chart.is_goal(known) else known


def node_of(name, forks):
    """The node that does a deed, its one fork being for None, or that looks."""
    if forks[0][0] is None:
        return ("do", name, forks[0][1])
    return ("look", name, tuple(forks))


def is_number(number):
    """Whether it is a number of knowledge: a whole number or None."""
    return number is None or is_whole(number)


def number_fits(chart, by_known, known):
    """Whether the number of some knowledge is no more than what any step from there costs by the numbers behind it."""
    number = by_known[known]
    if chart.is_goal(known):
        return number is not None and number <= 0
    for name, price, coming in chart.steps_from(known):
        for worth, behind in coming:
            if behind not in by_known:
                return False
        if not is_at_most(number, price, [by_known[behind] for worth, behind in coming]):
            return False
    return True


def is_at_most(number, price, behind):
    """Whether a number is no more than a price and the greatest number behind it; None is more than any number."""
    if None in behind:
        return True
    return number is not None and number <= price + max(behind)


class Family:
    """Knowledges of which it is asked whether one of them lies within some other knowledge.

    Only the least ones are kept: where any one lies within, a least one does. Of two that lie within one another the
    inner one is the lesser number, so it comes first among the sorted members.
    """

    def __init__(self, members):
        self.least_ones = []
        for known in members:
            if not self.has_least_within(known):
                self.least_ones.append(known)
        self.answers = {}

    def has_least_within(self, known):
        """Whether one of the least ones lies within some knowledge."""
        for least in self.least_ones:
            if is_within(least, known):
                return True
        return False

    def has_one_within(self, known):
        """As has_least_within; each answer is kept, since the same knowledge often comes of several."""
        if known not in self.answers:
            self.answers[known] = self.has_least_within(known)
        return self.answers[known]

    def holds_in(self, steps):
        """Whether behind each step, whatever it is, one of the family lies within some knowledge that may come."""
        for name, price, coming in steps:
            if not self.has_one_within_some([behind for worth, behind in coming]):
                return False
        return True

    def has_one_within_some(self, knowns):
        """Whether one of the family lies within one of several knowledges."""
        for known in knowns:
            if self.has_one_within(known):
                return True
        return False
