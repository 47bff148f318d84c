"""The lifts that are let, and the standings behind them."""

from cranefloor.errors import NoLift, NoStanding
from cranefloor.floors import is_good, is_within


def lifts(floor, standing):
    refuse_unless_good(floor, standing)
    found = []
    # Counting upwards in each place gives the order of tuples by itself.
    for source in range(floor.stacks()):
        for target in range(floor.stacks()):
            for many in range(1, floor.lift() + 1):
                lift = (source, target, many)
                if is_let(floor, standing, lift):
                    found.append(lift)
    return found


def after(floor, standing, lift):
    refuse_unless_good(floor, standing)
    if not is_let(floor, standing, lift):
        raise NoLift("this is no lift that is let")
    return moved(standing, lift)


def refuse_unless_good(floor, standing):
    if not is_good(floor, standing):
        raise NoStanding("the standing is not good for the floor")


def is_let(floor, standing, lift):
    return can_be_done(floor, standing, lift) and is_good(floor, moved(standing, lift))


def can_be_done(floor, standing, lift):
    if not isinstance(lift, tuple) or len(lift) != 3:
        return False
    source = lift[0]
    target = lift[1]
    # Asked outright, as Python would take a number below nought for a stack counted from the end.
    if not is_stack(floor, source) or not is_stack(floor, target) or source == target:
        return False
    return is_within(lift[2], 1, min(floor.lift(), len(standing[source])))


def is_stack(floor, value):
    return is_within(value, 0, floor.stacks() - 1)


def moved(standing, lift):
    source = lift[0]
    target = lift[1]
    left = len(standing[source]) - lift[2]
    stacks = list(standing)
    stacks[source] = standing[source][:left]
    stacks[target] = standing[target] + standing[source][left:]
    return tuple(stacks)
