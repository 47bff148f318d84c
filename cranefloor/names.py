"""Crates called by other names, and stacks put in another order."""

from cranefloor.errors import NoNames, NoOrder
from cranefloor.floors import Floor, is_within

CRATE_COUNT = 10


def renamed(standing, names):
    refuse_unless_names(names)
    return tuple([stack_renamed(stack, names) for stack in standing])


def reordered(standing, order):
    if not has_each_once(order, len(standing)):
        raise NoOrder("an order has each stack of the standing once")
    stacks = list(standing)
    for place, stack in zip(order, standing):
        stacks[place] = stack
    return tuple(stacks)


def floor_renamed(floor, names):
    refuse_unless_names(names)
    bans = [(names[one], names[other]) for one, other in floor.bans()]
    return Floor(floor.stacks(), floor.height(), floor.lift(), bans)


def refuse_unless_names(names):
    if not has_each_once(names, CRATE_COUNT):
        raise NoNames("names are ten numbers, each from 0 to 9 once")


def stack_renamed(stack, names):
    return tuple([names[crate] for crate in stack])


def has_each_once(numbers, many):
    if not isinstance(numbers, list) or len(numbers) != many:
        return False
    if not all([is_within(number, 0, many - 1) for number in numbers]):
        return False
    # As many as there are and none twice: so none is left out.
    return len(set(numbers)) == many
