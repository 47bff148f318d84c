"""What several test files need: the refusals, drawn-out standings, and lifts built from the document's words."""

import itertools
import unittest

from cranefloor.errors import (
    BadText,
    CraneError,
    NoFloor,
    NoLift,
    NoNames,
    NoOrder,
    NoStanding,
    OtherCrates,
    TooMany,
)

REFUSALS = [NoFloor, NoStanding, NoLift, OtherCrates, TooMany, NoNames, NoOrder, BadText]

# Far beyond every bound, and longer than Python writes out as a text.
HUGE = 10 ** 5000


class RefusalTestCase(unittest.TestCase):
    def assert_refused(self, refusal, ask, *handed):
        with self.assertRaises(refusal, msg=handed) as caught:
            ask(*handed)
        self.assertIsInstance(caught.exception, CraneError)
        self.assertIsInstance(caught.exception, ValueError)
        for other in REFUSALS:
            self.assertEqual(isinstance(caught.exception, other), other is refusal)


def standings_of(stacks, crates):
    found = []
    for row in itertools.permutations(crates):
        for cuts in itertools.combinations_with_replacement(range(len(row) + 1), stacks - 1):
            edges = (0,) + cuts + (len(row),)
            found.append(tuple(row[low:high] for low, high in zip(edges, edges[1:])))
    return found


def lifts_by_the_document(handed, standing):
    # Built crate by crate from what the floor was made of, so that a fault of the program is not a fault here.
    stacks, height, crane, bans = handed
    found = {}
    for source, target, many in itertools.product(range(stacks), range(stacks), range(1, crane + 1)):
        if source == target or many > len(standing[source]) or len(standing[target]) + many > height:
            continue
        piles = [list(stack) for stack in standing]
        carried = [piles[source].pop() for time in range(many)]
        piles[target].extend(carried[::-1])
        if not any((pile[k + 1], pile[k]) in bans for pile in piles for k in range(len(pile) - 1)):
            found[(source, target, many)] = tuple(tuple(pile) for pile in piles)
    return found
