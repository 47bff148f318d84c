"""Floors, and the standings that are good for them."""

from cranefloor.errors import NoFloor

FEWEST_STACKS = 2
MOST_STACKS = 4
LOWEST_HEIGHT = 1
GREATEST_HEIGHT = 6
WEAKEST_CRANE = 1
STRONGEST_CRANE = 3
MOST_BANS = 20
FIRST_CRATE = 0
LAST_CRATE = 9


class Floor:
    def __init__(self, stacks, height, lift, bans):
        if not is_within(stacks, FEWEST_STACKS, MOST_STACKS):
            raise NoFloor("a floor has 2 to 4 stacks")
        if not is_within(height, LOWEST_HEIGHT, GREATEST_HEIGHT):
            raise NoFloor("a floor has a height from 1 to 6")
        if not is_within(lift, WEAKEST_CRANE, STRONGEST_CRANE):
            raise NoFloor("a crane lifts up to 1 to 3 crates")
        if not are_bans(bans):
            raise NoFloor("bans are up to 20 pairs of two unlike crates")
        self.stack_count = stacks
        self.most_crates = height
        self.crane_strength = lift
        # A tuple of its own, so that the floor does not hang on the list that was handed in.
        self.banned_pairs = tuple(sorted(set(bans)))

    def stacks(self):
        return self.stack_count

    def height(self):
        return self.most_crates

    def lift(self):
        return self.crane_strength

    def bans(self):
        return list(self.banned_pairs)


def is_good(floor, standing):
    if not isinstance(standing, tuple) or len(standing) != floor.stacks():
        return False
    crates = []
    for stack in standing:
        if not is_good_stack(floor, stack):
            return False
        crates.extend(stack)
    return len(set(crates)) == len(crates)


def is_good_stack(floor, stack):
    if not isinstance(stack, tuple) or len(stack) > floor.height():
        return False
    if not all([is_crate(crate) for crate in stack]):
        return False
    bans = floor.bans()
    # Each pair is (upper, lower), the way round in which a ban is told.
    return not any([pair in bans for pair in zip(stack[1:], stack)])


def are_bans(bans):
    # Bans that are told twice count twice here: the bound is on what is handed in.
    if not isinstance(bans, (list, tuple)) or len(bans) > MOST_BANS:
        return False
    return all([is_ban(ban) for ban in bans])


def is_ban(ban):
    if not isinstance(ban, tuple) or len(ban) != 2:
        return False
    return is_crate(ban[0]) and is_crate(ban[1]) and ban[0] != ban[1]


def is_crate(value):
    return is_within(value, FIRST_CRATE, LAST_CRATE)


def is_within(value, least, most):
    # True and False are no whole numbers here, though Python counts them among its own.
    if not isinstance(value, int) or isinstance(value, bool):
        return False
    return least <= value <= most
