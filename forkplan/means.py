"""Means: what plans cost in the mean, where each deed has one way and each first standing has a weight."""

from forkplan.charts import WeightedChart
from forkplan.errors import NotPlain, NoWeights
from forkplan.find import best_steps, plan_by, steps_of_all
from forkplan.judge import sure_prices
from forkplan.known import first_known
from forkplan.worlds import is_whole

LEAST_WEIGHT = 1


def mean_price(world, plan, weights):
    """The mean price of a plan that surely works, as a tuple (over, under) in lowest terms."""
    refuse_ways(world)
    refuse_weights(world, weights)
    prices = sure_prices(world, plan)
    return lowest_terms(sum([weight * price for weight, price in zip(weights, prices)]), sum(weights))


def least_mean(world, weights):
    """The least mean price of any plan that surely works, and such a plan: a tuple (over, under, plan), or None."""
    refuse_ways(world)
    refuse_weights(world, weights)
    chart = WeightedChart(world)
    first = chart.first_number(first_known(world), weights)
    best = best_steps(chart, steps_of_all(chart, first))
    if first not in best:
        return None
    return lowest_terms(best[first][0], sum(weights)) + (plan_by(chart, best, first),)


def refuse_ways(world):
    """Refuses a world one of whose deeds has more than one way."""
    for name, price, need, ways in world[1]:
        if len(ways) > 1:
            raise NotPlain(f"the deed {name!r} has more than one way")


def refuse_weights(world, weights):
    """Refuses weights that are not one for each standing of the first knowledge, or one of which is below 1."""
    if len(weights) != len(first_known(world)):
        raise NoWeights("there is not one weight for each standing of the first knowledge")
    for weight in weights:
        if not is_whole(weight) or weight < LEAST_WEIGHT:
            raise NoWeights(f"the weight {weight!r} is no whole number from 1 on")


def lowest_terms(over, under):
    """The same fraction, over and under divided by what divides both."""
    greatest = greatest_divisor(over, under)
    return (over // greatest, under // greatest)


def greatest_divisor(one, other):
    """The greatest number that divides both, of which the other one is not 0."""
    while other > 0:
        rest = one % other
        one = other
        other = rest
    return one
