import itertools
import unittest

from common import HUGE, RefusalTestCase, lifts_by_the_document, standings_of
from cranefloor.errors import NoLift, NoStanding
from cranefloor.floors import Floor, is_good
from cranefloor.lifts import after, lifts

FLOORS = [
    (2, 1, 1, []),
    (2, 3, 3, [(1, 0)]),
    (2, 2, 2, [(0, 1), (1, 0)]),
    (3, 2, 1, []),
    (3, 3, 2, [(0, 2), (2, 1)]),
    (3, 4, 3, [(3, 0), (0, 3), (1, 2)]),
    (4, 1, 3, [(0, 1)]),
    (4, 6, 3, [(2, 0), (1, 3)]),
]


def cases():
    for handed in FLOORS:
        floor = Floor(*handed)
        for many in range(5):
            for standing in standings_of(handed[0], range(many)):
                if is_good(floor, standing):
                    yield handed, floor, standing


class LiftsTold(unittest.TestCase):
    def test_ordinary_lifts(self):
        floor = Floor(3, 3, 2, [])
        self.assertEqual(
            lifts(floor, ((1, 0), (2,), ())),
            [(0, 1, 1), (0, 1, 2), (0, 2, 1), (0, 2, 2), (1, 0, 1), (1, 2, 1)],
        )

    def test_a_full_stack_takes_no_more(self):
        self.assertEqual(lifts(Floor(2, 2, 3, []), ((0, 1), (2,))), [(0, 1, 1)])
        self.assertEqual(lifts(Floor(2, 1, 1, []), ((0,), (1,))), [])

    def test_the_crane_bounds_the_number(self):
        standing = ((0, 1, 2, 3), ())
        self.assertEqual(lifts(Floor(2, 4, 1, []), standing), [(0, 1, 1)])
        self.assertEqual(lifts(Floor(2, 4, 2, []), standing), [(0, 1, 1), (0, 1, 2)])
        self.assertEqual(lifts(Floor(2, 4, 3, []), standing), [(0, 1, 1), (0, 1, 2), (0, 1, 3)])

    def test_a_ban_shuts_out_a_lift(self):
        floor = Floor(2, 3, 2, [(1, 0)])
        self.assertEqual(lifts(floor, ((0,), (1,))), [(0, 1, 1)])
        self.assertEqual(lifts(floor, ((0,), (2, 1))), [(0, 1, 1), (1, 0, 2)])

    def test_an_empty_floor_has_no_lifts(self):
        for stacks in range(2, 5):
            self.assertEqual(lifts(Floor(stacks, 6, 3, []), ((),) * stacks), [])

    def test_arguments_go_by_their_names(self):
        floor = Floor(2, 3, 2, [])
        self.assertEqual(lifts(floor=floor, standing=((7,), ())), [(0, 1, 1)])
        self.assertEqual(after(floor=floor, standing=((7,), ()), lift=(0, 1, 1)), ((), (7,)))

    def test_all_lifts_that_are_let_and_no_others_in_the_order_of_tuples(self):
        for handed, floor, standing in cases():
            self.assertEqual(lifts(floor, standing), sorted(lifts_by_the_document(handed, standing)))

    def test_the_list_told_is_the_askers_own(self):
        floor = Floor(3, 3, 2, [(2, 0)])
        standing = ((1, 0), (2,), ())
        told = lifts(floor, standing)
        kept = list(told)
        told.reverse()
        told.append((9, 9, 9))
        self.assertEqual(lifts(floor, standing), kept)
        told.clear()
        self.assertEqual(lifts(floor, standing), kept)
        self.assertEqual(after(floor, standing, kept[0]), ((1,), (2, 0), ()))

    def test_no_two_lists_told_are_one(self):
        floor = Floor(2, 3, 2, [])
        for standing in [((), ()), ((7,), ())]:
            self.assertIsInstance(lifts(floor, standing), list)
            self.assertIsNot(lifts(floor, standing), lifts(floor, standing))

    def test_bans_changed_later_change_no_lift(self):
        handed = [(1, 0)]
        floor = Floor(2, 3, 2, handed)
        handed[0] = (0, 1)
        self.assertEqual(lifts(floor, ((0,), (1,))), [(0, 1, 1)])
        self.assertEqual(handed, [(0, 1)])


class StandingsBehind(unittest.TestCase):
    def test_the_crates_lifted_keep_their_order(self):
        floor = Floor(3, 6, 3, [])
        standing = ((0, 1, 2, 3), (4,), ())
        self.assertEqual(after(floor, standing, (0, 1, 1)), ((0, 1, 2), (4, 3), ()))
        self.assertEqual(after(floor, standing, (0, 1, 2)), ((0, 1), (4, 2, 3), ()))
        self.assertEqual(after(floor, standing, (0, 2, 3)), ((0,), (4,), (1, 2, 3)))

    def test_a_whole_stack_is_lifted(self):
        self.assertEqual(after(Floor(2, 3, 3, []), ((5, 6, 7), ()), (0, 1, 3)), ((), (5, 6, 7)))

    def test_bans_within_what_is_lifted_stay_kept(self):
        floor = Floor(2, 4, 2, [(0, 1)])
        self.assertEqual(after(floor, ((0, 1), (2,)), (0, 1, 2)), ((), (2, 0, 1)))

    def test_each_lift_told_gives_the_standing_behind_it(self):
        for handed, floor, standing in cases():
            for lift, behind in lifts_by_the_document(handed, standing).items():
                self.assertEqual(after(floor, standing, lift), behind)

    def test_the_standing_behind_is_a_tuple_of_tuples(self):
        behind = after(Floor(2, 3, 2, []), ((7, 8), ()), (0, 1, 1))
        self.assertIsInstance(behind, tuple)
        for stack in behind:
            self.assertIsInstance(stack, tuple)


class LiftsRefused(RefusalTestCase):
    def refused(self, floor, standing, *wrong):
        for lift in wrong:
            self.assert_refused(NoLift, after, floor, standing, lift)

    def test_two_alike_stacks(self):
        floor = Floor(3, 3, 2, [])
        self.refused(floor, ((1, 0), (2,), ()), (0, 0, 1), (0, 0, 2), (1, 1, 1), (2, 2, 1))

    def test_a_stack_that_is_not_there(self):
        for stacks in range(2, 5):
            standing = ((1,),) + ((),) * (stacks - 1)
            floor = Floor(stacks, 3, 2, [])
            self.assertEqual(after(floor, standing, (0, stacks - 1, 1))[stacks - 1], (1,))
            self.refused(floor, standing, (0, stacks, 1), (stacks, 0, 1), (0, HUGE, 1), (HUGE, 0, 1))

    def test_negative_numbers(self):
        floor = Floor(3, 3, 2, [])
        standing = ((1, 0), (2,), (3,))
        self.refused(floor, standing, (0, -1, 1), (0, -2, 1), (0, -3, 1), (-1, 0, 1), (-2, 0, 1), (-3, 1, 1))
        self.refused(floor, standing, (-1, -2, 1), (-1, -2, -1), (0, 1, -1), (0, 1, -2), (0, 1, -HUGE), (-HUGE, 0, 1))

    def test_a_number_below_one(self):
        self.refused(Floor(2, 3, 2, []), ((1, 0), (2,)), (0, 1, 0), (1, 0, 0), (0, 1, -1))
        self.refused(Floor(2, 3, 2, []), ((), ()), (0, 1, 0))

    def test_a_number_above_the_cranes(self):
        for crane in range(1, 4):
            floor = Floor(2, 6, crane, [])
            standing = ((0, 1, 2, 3, 4, 5), ())
            self.assertEqual(len(after(floor, standing, (0, 1, crane))[1]), crane)
            self.refused(floor, standing, (0, 1, crane + 1), (0, 1, 6), (0, 1, HUGE))

    def test_a_number_above_what_stands_there(self):
        floor = Floor(3, 6, 3, [])
        self.refused(floor, ((1, 0), (2,), ()), (0, 1, 3), (1, 0, 2), (1, 2, 3), (2, 0, 1), (2, 1, 3))

    def test_a_stack_that_would_be_too_high(self):
        floor = Floor(2, 3, 2, [])
        self.assertEqual(after(floor, ((0, 1), (2, 3)), (0, 1, 1)), ((0,), (2, 3, 1)))
        self.refused(floor, ((0, 1), (2, 3)), (0, 1, 2), (1, 0, 2))

    def test_a_crate_that_would_stand_upon_one_that_a_ban_forbids_it(self):
        floor = Floor(2, 3, 2, [(1, 0)])
        self.refused(floor, ((0,), (1,)), (1, 0, 1))
        self.refused(floor, ((0,), (1, 2)), (1, 0, 2))
        self.assertEqual(after(floor, ((0,), (1,)), (0, 1, 1)), ((), (1, 0)))

    def test_what_is_no_tuple_of_three_whole_numbers(self):
        floor = Floor(2, 3, 2, [])
        standing = ((0,), (1,))
        self.refused(floor, standing, (), (0, 1), (0, 1, 1, 1), [0, 1, 1], None, 1, "011")
        self.refused(floor, standing, (0, True, 1), (False, 1, 1), (0, 1, True), (0, 1, "1"), (None, 1, 1))

    def test_every_lift_near_the_bounds_that_is_not_let(self):
        for handed, floor, standing in cases():
            if sum(len(stack) for stack in standing) > 2:
                continue
            let = lifts_by_the_document(handed, standing)
            near = range(-handed[0] - 1, handed[0] + 2)
            wrong = [lift for lift in itertools.product(near, near, range(-2, 5)) if lift not in let]
            self.refused(floor, standing, *wrong)


class StandingsRefused(RefusalTestCase):
    wrong = [
        (),
        ((0,),),
        ((0,), (1,), ()),
        ((0, 0), ()),
        ((0,), (0,)),
        ((-1,), ()),
        ((10,), ()),
        ((0, 2, 3, 4), ()),
        ((0, 1), ()),
    ]

    def test_lifts_refuses_a_standing_that_is_not_good(self):
        floor = Floor(2, 3, 2, [(1, 0)])
        for standing in self.wrong:
            self.assert_refused(NoStanding, lifts, floor, standing)

    def test_after_refuses_a_standing_that_is_not_good_ahead_of_any_lift(self):
        floor = Floor(2, 3, 2, [(1, 0)])
        for standing in self.wrong:
            for lift in [(0, 1, 1), (0, 0, 1), (0, 7, 1), (-1, 0, 1), (0, 1, 0), (0, 1, 9)]:
                self.assert_refused(NoStanding, after, floor, standing, lift)

    def test_a_lift_that_would_mend_the_standing_is_refused_with_it(self):
        floor = Floor(2, 3, 2, [(1, 0)])
        self.assert_refused(NoStanding, after, floor, ((0, 1), ()), (0, 1, 1))
        self.assert_refused(NoStanding, after, floor, ((2, 3, 4, 5), ()), (0, 1, 1))


class LiftsUndone(unittest.TestCase):
    def test_behind_each_lift_the_one_turned_round_is_let_and_leads_back(self):
        for handed, floor, standing in cases():
            for source, target, many in lifts(floor, standing):
                behind = after(floor, standing, (source, target, many))
                self.assertIs(is_good(floor, behind), True)
                self.assertIn((target, source, many), lifts(floor, behind))
                self.assertEqual(after(floor, behind, (target, source, many)), standing)


if __name__ == "__main__":
    unittest.main()
