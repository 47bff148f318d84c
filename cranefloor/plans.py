"""The standings that are come to, their heights above a goal, and plans of the fewest lifts."""

from cranefloor.errors import OtherCrates, TooMany
from cranefloor.lifts import lifts, moved, refuse_unless_good

MOST_CRATES = 4


def come_to(floor, standing):
    refuse_unless_good(floor, standing)
    refuse_too_many(standing)
    return sorted(heights_above(floor, standing))


def heights(floor, goal):
    refuse_unless_good(floor, goal)
    refuse_too_many(goal)
    return sorted(heights_above(floor, goal).items())


def plan(floor, start, goal):
    refuse_unless_good(floor, start)
    refuse_unless_good(floor, goal)
    refuse_too_many(start)
    if crates_of(start) != crates_of(goal):
        raise OtherCrates("the two standings have unlike crates")
    above = heights_above(floor, goal)
    if start not in above:
        return ("shut", sorted(heights_above(floor, start)))
    return ("plan", way_down(floor, start, above))


def refuse_too_many(standing):
    if len(crates_of(standing)) > MOST_CRATES:
        raise TooMany("the standing has more than 4 crates")


def crates_of(standing):
    crates = []
    for stack in standing:
        crates.extend(stack)
    return sorted(crates)


def heights_above(floor, goal):
    # Walked from the goal, not to it: each lift can be undone, so the way back is as long as the way there.
    above = {goal: 0}
    reached = [goal]
    done = 0
    # Standings are reached lowest first, so the height that one is given first is its fewest lifts.
    while done < len(reached):
        standing = reached[done]
        for lift in lifts(floor, standing):
            behind = moved(standing, lift)
            if behind not in above:
                above[behind] = above[standing] + 1
                reached.append(behind)
        done = done + 1
    return above


def way_down(floor, start, above):
    way = []
    standing = start
    while above[standing] > 0:
        # One is always there: each standing above nought has a lift that lowers it.
        lift = lowering_lifts(floor, standing, above)[0]
        way.append(lift)
        standing = moved(standing, lift)
    return way


def lowering_lifts(floor, standing, above):
    return [lift for lift in lifts(floor, standing) if above[moved(standing, lift)] < above[standing]]
