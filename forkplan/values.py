"""What a look or a deed is worth: how much more a plan costs in the worst case without it."""

from forkplan.find import worst_value
from forkplan.known import first_known
from forkplan.worlds import named


def what_it_is_worth(world, name):
    """The worst values of the first knowledge in the world and in the world without a look or a deed."""
    named(world[1] + world[2], name, "deed or look")
    known = first_known(world)
    return (worst_value(world, known), worst_value(world_without(world, name), known))


def world_without(world, name):
    """The world without the deed or the look of that name."""
    deeds = [deed for deed in world[1] if deed[0] != name]
    looks = [look for look in world[2] if look[0] != name]
    return (world[0], deeds, looks, world[3], world[4])
