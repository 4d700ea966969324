"""Rows without looks: deeds done one behind the other, whatever comes."""

from forkplan.charts import Chart
from forkplan.find import best_steps, steps_of_all
from forkplan.known import first_known
from forkplan.worlds import named


def row_works(world, row):
    """Whether a row of deeds surely works."""
    for name in row:
        named(world[1], name, "deed")
    chart = Chart(without_looks(world))
    known = chart.number_of(first_known(world))
    for name in row:
        known = known_behind(chart.steps_from(known), name)
        if known is None:
            return False
    return chart.is_goal(known)


def least_row(world):
    """The first one by the alphabet of the rows of the least price that surely work, or None where none does."""
    chart = Chart(without_looks(world))
    known = chart.number_of(first_known(world))
    steps = steps_of_all(chart, known)
    best = best_steps(chart, steps)
    if known not in best:
        return None
    row = []
    while not chart.is_goal(known):
        # No row is the beginning of another one of the same price: so the first name at each place is enough.
        name = min([step[0] for step in steps[known] if is_best(step, best, best[known][0])])
        row.append(name)
        known = known_behind(steps[known], name)
    return row


def without_looks(world):
    """The world with its deeds alone."""
    return (world[0], world[1], [], world[3], world[4])


def known_behind(steps, name):
    """The knowledge behind the deed of that name, or None where it is not among the steps: then it may not be done."""
    for step in steps:
        if step[0] == name:
            return coming_of(step)
    return None


def is_best(step, best, value):
    """Whether a row of that price may begin with a deed."""
    coming = coming_of(step)
    return coming in best and step[1] + best[coming][0] == value


def coming_of(step):
    """The knowledge behind a deed."""
    return step[2][0][1]
