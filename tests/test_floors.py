import itertools
import unittest

from common import HUGE, RefusalTestCase
from cranefloor.errors import NoFloor
from cranefloor.floors import Floor, is_good


def all_pairs():
    return list(itertools.permutations(range(10), 2))


class FloorBounds(RefusalTestCase):
    def refused(self, *handed):
        self.assert_refused(NoFloor, Floor, *handed)

    def test_every_floor_within_the_bounds_is_made_and_tells_its_numbers(self):
        for stacks in range(2, 5):
            for height in range(1, 7):
                for lift in range(1, 4):
                    floor = Floor(stacks, height, lift, [])
                    told = (floor.stacks(), floor.height(), floor.lift(), floor.bans())
                    self.assertEqual(told, (stacks, height, lift, []))

    def test_arguments_go_by_their_names(self):
        floor = Floor(stacks=2, height=6, lift=1, bans=[(3, 4)])
        told = (floor.stacks(), floor.height(), floor.lift(), floor.bans())
        self.assertEqual(told, (2, 6, 1, [(3, 4)]))

    def test_stacks_beyond_the_bounds(self):
        for stacks in [-HUGE, -3, -1, 0, 1, 5, 6, HUGE]:
            self.refused(stacks, 3, 2, [])

    def test_height_beyond_the_bounds(self):
        for height in [-HUGE, -1, 0, 7, 8, HUGE]:
            self.refused(3, height, 2, [])

    def test_lift_beyond_the_bounds(self):
        for lift in [-HUGE, -1, 0, 4, 5, HUGE]:
            self.refused(3, 3, lift, [])

    def test_what_is_no_whole_number(self):
        for wrong in [True, False, None, "3", (3,), [3], 3.0]:
            self.refused(wrong, 3, 2, [])
            self.refused(3, wrong, 2, [])
            self.refused(3, 3, wrong, [])

    def test_twenty_bans_are_taken_and_twenty_one_refused(self):
        pairs = all_pairs()
        self.assertEqual(Floor(3, 3, 2, pairs[:20]).bans(), pairs[:20])
        self.refused(3, 3, 2, pairs[:21])
        self.refused(3, 3, 2, pairs)

    def test_bans_are_counted_as_they_are_handed_in(self):
        self.assertEqual(Floor(3, 3, 2, [(1, 2)] * 20).bans(), [(1, 2)])
        self.refused(3, 3, 2, [(1, 2)] * 21)
        self.refused(3, 3, 2, all_pairs()[:20] + [(0, 1)])

    def test_every_pair_of_unlike_crates_is_a_ban(self):
        for pair in all_pairs():
            self.assertEqual(Floor(3, 3, 2, [pair]).bans(), [pair])

    def test_crates_of_a_ban_beyond_the_bounds(self):
        for crate in [-HUGE, -2, -1, 10, 11, HUGE]:
            self.refused(3, 3, 2, [(crate, 5)])
            self.refused(3, 3, 2, [(5, crate)])

    def test_two_alike_crates_in_a_ban(self):
        for crate in range(10):
            self.refused(3, 3, 2, [(crate, crate)])

    def test_a_wrong_ban_is_refused_wherever_it_stands(self):
        self.refused(3, 3, 2, [(4, 4), (1, 2), (2, 3)])
        self.refused(3, 3, 2, [(1, 2), (4, 4), (2, 3)])
        self.refused(3, 3, 2, [(1, 2), (2, 3), (4, 4)])

    def test_what_is_no_pair_of_crates(self):
        for wrong in [(), (1,), (1, 2, 3), [1, 2], "12", 12, None, (1, "2"), (1, None), (True, 2), (2, False)]:
            self.refused(3, 3, 2, [wrong])

    def test_what_is_no_list_of_bans(self):
        for wrong in [None, 3, "12", {(1, 2): True}]:
            self.refused(3, 3, 2, wrong)


class Bans(unittest.TestCase):
    def test_each_ban_is_told_once_in_order(self):
        handed = [(9, 0), (1, 2), (0, 9), (1, 2), (2, 1), (1, 0), (9, 0)]
        self.assertEqual(Floor(3, 3, 2, handed).bans(), [(0, 9), (1, 0), (1, 2), (2, 1), (9, 0)])

    def test_the_list_handed_in_is_not_changed(self):
        handed = [(9, 0), (1, 2), (1, 2)]
        Floor(3, 3, 2, handed)
        self.assertEqual(handed, [(9, 0), (1, 2), (1, 2)])

    def test_a_list_changed_after_the_floor_is_made_changes_nothing(self):
        handed = [(1, 0)]
        floor = Floor(2, 3, 2, handed)
        handed.append((3, 2))
        handed[0] = (5, 4)
        self.assertEqual(floor.bans(), [(1, 0)])
        self.assertIs(is_good(floor, ((0, 1), ())), False)
        self.assertIs(is_good(floor, ((2, 3), ())), True)
        self.assertIs(is_good(floor, ((4, 5), ())), True)
        handed.clear()
        self.assertEqual(floor.bans(), [(1, 0)])
        self.assertIs(is_good(floor, ((0, 1), ())), False)

    def test_the_list_told_is_the_askers_own(self):
        floor = Floor(2, 3, 2, [(1, 0)])
        told = floor.bans()
        told.append((3, 2))
        told[0] = (5, 4)
        self.assertEqual(floor.bans(), [(1, 0)])
        self.assertIs(is_good(floor, ((0, 1), ())), False)
        self.assertIs(is_good(floor, ((2, 3), ())), True)

    def test_no_two_lists_told_are_one(self):
        floor = Floor(2, 3, 2, [])
        self.assertIsInstance(floor.bans(), list)
        self.assertIsNot(floor.bans(), floor.bans())

    def test_floors_made_of_one_list_have_nothing_in_common(self):
        handed = [(1, 0)]
        one = Floor(2, 3, 2, handed)
        other = Floor(3, 4, 1, handed)
        one.bans().clear()
        self.assertIsNot(one.bans(), other.bans())
        self.assertEqual(other.bans(), [(1, 0)])
        self.assertEqual((one.stacks(), one.height(), one.lift()), (2, 3, 2))


class GoodStandings(unittest.TestCase):
    def good(self, floor, *standings):
        for standing in standings:
            self.assertIs(is_good(floor, standing), True, standing)

    def not_good(self, floor, *standings):
        for standing in standings:
            self.assertIs(is_good(floor, standing), False, standing)

    def test_ordinary_standings(self):
        floor = Floor(3, 3, 2, [])
        self.good(floor, ((1, 0), (2,), ()), ((), (), ()), ((), (), (9, 0, 5)), ((0, 1, 2), (3, 4, 5), (6, 7, 8)))

    def test_arguments_go_by_their_names(self):
        self.assertIs(is_good(floor=Floor(2, 3, 2, []), standing=((), ())), True)

    def test_every_number_of_tuples_on_every_floor(self):
        for stacks in range(2, 5):
            floor = Floor(stacks, 3, 2, [])
            for many in range(9):
                self.assertIs(is_good(floor, ((),) * many), many == stacks)
                self.assertIs(is_good(floor, ((7,),) + ((),) * many), many + 1 == stacks)

    def test_no_tuple_at_all(self):
        for stacks in range(2, 5):
            self.not_good(Floor(stacks, 3, 2, []), (), [], None, 3, "12")

    def test_lists_in_the_place_of_tuples(self):
        self.not_good(Floor(2, 3, 2, []), [(1,), (2,)], ([1], (2,)), ((1,), [2]), ((1,), 2), (1, 2), ("1", "2"))

    def test_a_crate_twice_in_one_stack(self):
        self.not_good(Floor(2, 3, 2, []), ((4, 4), ()), ((), (4, 4)), ((4, 5, 4), ()), ((0, 0), ()))

    def test_a_crate_twice_in_two_stacks(self):
        self.not_good(Floor(3, 3, 2, []), ((4,), (4,), ()), ((4,), (), (4,)), ((), (1, 4), (4, 2)), ((0,), (0,), ()))

    def test_every_crate_is_good_and_no_other_number(self):
        floor = Floor(2, 3, 2, [])
        for crate in range(10):
            self.good(floor, ((crate,), ()), ((), (crate,)))
        for wrong in [-HUGE, -10, -1, 10, 11, HUGE]:
            self.not_good(floor, ((wrong,), ()), ((), (wrong,)), ((1, 2, wrong), ()), ((wrong, 2, 1), ()))

    def test_what_is_no_whole_number(self):
        for wrong in [True, False, None, "1", (1,), [1]]:
            self.not_good(Floor(2, 3, 2, []), ((wrong,), ()), ((5,), (6, wrong)))

    def test_every_height_of_a_stack_on_every_floor(self):
        for height in range(1, 7):
            floor = Floor(2, height, 2, [])
            for many in range(11):
                stack = tuple(range(many))
                self.assertIs(is_good(floor, (stack, ())), many <= height)
                self.assertIs(is_good(floor, ((), stack)), many <= height)

    def test_the_height_bounds_each_stack_by_itself(self):
        self.good(Floor(2, 5, 1, []), ((0, 1, 2, 3, 4), (5, 6, 7, 8, 9)))
        self.not_good(Floor(2, 5, 1, []), ((0, 1, 2, 3), (4, 5, 6, 7, 8, 9)))

    def test_a_ban_works_in_its_own_direction_alone(self):
        floor = Floor(2, 3, 2, [(1, 0)])
        self.not_good(floor, ((0, 1), ()), ((), (0, 1)))
        self.good(floor, ((1, 0), ()), ((), (1, 0)))

    def test_bans_in_both_directions(self):
        self.not_good(Floor(2, 3, 2, [(1, 0), (0, 1)]), ((0, 1), ()), ((1, 0), ()))

    def test_a_ban_works_at_every_place_of_a_stack(self):
        floor = Floor(2, 4, 2, [(1, 0)])
        self.not_good(floor, ((0, 1, 2, 3), ()), ((2, 0, 1, 3), ()), ((), (2, 3, 0, 1)))

    def test_a_ban_works_straight_upon_alone(self):
        floor = Floor(2, 3, 2, [(1, 0)])
        self.good(floor, ((0, 2, 1), ()), ((0,), (1,)), ((2, 0), (1, 3)), ((0,), (2, 1)))

    def test_a_ban_of_crates_that_do_not_stand_there(self):
        self.good(Floor(2, 3, 2, [(1, 0)]), ((0, 2), ()), ((2, 1), ()))

    def test_each_of_twenty_bans_works(self):
        bans = all_pairs()[::4][:20]
        floor = Floor(2, 3, 2, bans)
        for one, other in all_pairs():
            self.assertIs(is_good(floor, ((other, one), ())), (one, other) not in bans)

    def test_standings_of_the_greatest_size_that_may_be_asked(self):
        self.not_good(Floor(4, 6, 3, []), (tuple(range(10)),) * 8, ((HUGE,) * 10,) * 4)


if __name__ == "__main__":
    unittest.main()
