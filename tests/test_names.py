import itertools
import random
import unittest

from common import HUGE, RefusalTestCase
from cranefloor.errors import NoNames, NoOrder
from cranefloor.floors import Floor, is_good
from cranefloor.names import floor_renamed, renamed, reordered
from cranefloor.plans import heights

TURNED = [9, 8, 7, 6, 5, 4, 3, 2, 1, 0]
NEXT_ONE = [1, 2, 3, 4, 5, 6, 7, 8, 9, 0]

STANDINGS = [
    ((), ()),
    ((1, 0), (2,)),
    ((1, 0), (2,), ()),
    ((), (7,), (4, 9, 0)),
    ((5,), (), (3, 8), (6,)),
    ((0, 1, 2, 3, 4, 5), (6, 7), (8,), (9,)),
]

FLOORS = [
    (2, 4, 3, [(1, 0), (2, 1)], ((2, 1, 0), ())),
    (3, 2, 1, [(3, 0), (0, 3), (1, 2)], ((0, 1), (3,), (2,))),
    (3, 3, 2, [], ((9, 4), (), (6,))),
    (4, 2, 2, [(5, 7), (7, 9), (2, 3)], ((5, 7), (9,), (), ())),
    (4, 1, 3, [(8, 0)], ((8,), (), (0,), ())),
]


def drawn_names(many):
    # A source that is sown draws the same names at each run.
    source = random.Random(5)
    return [source.sample(range(10), 10) for time in range(many)]


def wrong_lists_of(right):
    many = len(right)
    wrong = [[], right[:-1], right + [many], right + [0], right + [right[-1]], right + right]
    for place in range(many):
        for number in [-HUGE, -many, -1, many, many + 1, HUGE]:
            wrong.append(right[:place] + [number] + right[place + 1 :])
        for number in right[:place]:
            wrong.append(right[:place] + [number] + right[place + 1 :])
        wrong.append(right[:place] + right[place + 1 :])
    return wrong


class Renamed(unittest.TestCase):
    def test_ordinary_names(self):
        self.assertEqual(renamed(((1, 0), (2,), ()), TURNED), ((8, 9), (7,), ()))
        self.assertEqual(renamed(((1, 0), (2,), ()), NEXT_ONE), ((2, 1), (3,), ()))
        self.assertEqual(renamed(((9,), (8, 0)), NEXT_ONE), ((0,), (9, 1)))

    def test_arguments_go_by_their_names(self):
        self.assertEqual(renamed(standing=((1,), ()), names=NEXT_ONE), ((2,), ()))

    def test_names_as_they_are_change_nothing(self):
        for standing in STANDINGS:
            self.assertEqual(renamed(standing, list(range(10))), standing)

    def test_crate_k_is_called_by_name_k_at_its_own_place(self):
        for standing in STANDINGS:
            for names in drawn_names(20):
                told = renamed(standing, names)
                self.assertIsInstance(told, tuple)
                self.assertEqual([len(stack) for stack in told], [len(stack) for stack in standing])
                for k, stack in enumerate(standing):
                    self.assertIsInstance(told[k], tuple)
                    for place, crate in enumerate(stack):
                        self.assertEqual(told[k][place], names[crate])

    def test_names_turned_back_give_the_standing_back(self):
        for standing in STANDINGS:
            for names in drawn_names(20):
                back = [names.index(k) for k in range(10)]
                self.assertEqual(renamed(renamed(standing, names), back), standing)

    def test_names_handed_in_stay_and_may_be_changed_later(self):
        names = list(NEXT_ONE)
        told = renamed(((1, 0), (2,), ()), names)
        self.assertEqual(names, NEXT_ONE)
        names.reverse()
        names.pop()
        self.assertEqual(told, ((2, 1), (3,), ()))


class Reordered(unittest.TestCase):
    def test_ordinary_orders(self):
        standing = ((1, 0), (2,), ())
        self.assertEqual(reordered(standing, [2, 0, 1]), ((2,), (), (1, 0)))
        self.assertEqual(reordered(standing, [1, 2, 0]), ((), (1, 0), (2,)))
        self.assertEqual(reordered(standing, [0, 1, 2]), standing)
        self.assertEqual(reordered(((1,), (2,)), [1, 0]), ((2,), (1,)))
        self.assertEqual(reordered(((1,), (2,), (3,), (4,)), [1, 2, 3, 0]), ((4,), (1,), (2,), (3,)))

    def test_arguments_go_by_their_names(self):
        self.assertEqual(reordered(standing=((1,), ()), order=[1, 0]), ((), (1,)))

    def test_each_order_puts_stack_k_at_its_place_k(self):
        for standing in STANDINGS:
            for order in itertools.permutations(range(len(standing))):
                told = reordered(standing, list(order))
                self.assertIsInstance(told, tuple)
                self.assertEqual(len(told), len(standing))
                for k, place in enumerate(order):
                    self.assertEqual(told[place], standing[k])

    def test_an_order_handed_in_stays_and_may_be_changed_later(self):
        order = [2, 0, 1]
        told = reordered(((1, 0), (2,), ()), order)
        self.assertEqual(order, [2, 0, 1])
        order.reverse()
        order.pop()
        self.assertEqual(told, ((2,), (), (1, 0)))


class FloorRenamed(unittest.TestCase):
    def told_of(self, floor):
        return (floor.stacks(), floor.height(), floor.lift(), floor.bans())

    def test_ordinary_names(self):
        floor = Floor(3, 4, 2, [(1, 0), (2, 9)])
        told = floor_renamed(floor, NEXT_ONE)
        self.assertIsInstance(told, Floor)
        self.assertEqual(self.told_of(told), (3, 4, 2, [(2, 1), (3, 0)]))
        self.assertEqual(self.told_of(floor_renamed(floor, TURNED)), (3, 4, 2, [(7, 0), (8, 9)]))

    def test_arguments_go_by_their_names(self):
        told = floor_renamed(floor=Floor(2, 1, 3, [(1, 0)]), names=NEXT_ONE)
        self.assertEqual(self.told_of(told), (2, 1, 3, [(2, 1)]))

    def test_drawn_names_rename_the_bans_and_nothing_else(self):
        for stacks, height, lift, bans, goal in FLOORS:
            for names in drawn_names(20):
                told = floor_renamed(Floor(stacks, height, lift, bans), names)
                called = sorted((names[one], names[other]) for one, other in bans)
                self.assertEqual(self.told_of(told), (stacks, height, lift, called))

    def test_a_floor_of_twenty_bans(self):
        bans = list(itertools.permutations(range(10), 2))[::4][:20]
        for names in drawn_names(5):
            told = floor_renamed(Floor(2, 3, 1, bans), names)
            self.assertEqual(told.bans(), sorted((names[one], names[other]) for one, other in bans))

    def test_a_standing_is_good_just_where_the_renamed_one_is(self):
        floor = Floor(2, 3, 1, [(1, 0), (2, 1), (0, 2)])
        for names in drawn_names(5):
            for row in itertools.permutations(range(4), 3):
                told = is_good(floor_renamed(floor, names), renamed((row, ()), names))
                self.assertIs(told, is_good(floor, (row, ())))

    def test_the_floor_and_the_names_handed_in_stay(self):
        names = list(NEXT_ONE)
        floor = Floor(3, 4, 2, [(1, 0)])
        floor_renamed(floor, names)
        self.assertEqual(names, NEXT_ONE)
        self.assertEqual(self.told_of(floor), (3, 4, 2, [(1, 0)]))

    def test_names_changed_later_change_no_floor(self):
        names = list(NEXT_ONE)
        floor = Floor(3, 4, 2, [(1, 0)])
        told = floor_renamed(floor, names)
        names.reverse()
        names.pop()
        self.assertEqual(self.told_of(told), (3, 4, 2, [(2, 1)]))
        self.assertIs(is_good(told, ((1, 2), (), ())), False)
        self.assertIs(is_good(told, ((0, 1), (), ())), True)
        self.assertEqual(self.told_of(floor), (3, 4, 2, [(1, 0)]))

    def test_the_renamed_floor_has_nothing_in_common_with_the_first_one(self):
        floor = Floor(3, 4, 2, [(1, 0)])
        told = floor_renamed(floor, list(range(10)))
        self.assertIsNot(told, floor)
        told.bans().clear()
        self.assertIsNot(told.bans(), floor.bans())
        self.assertEqual((told.bans(), floor.bans()), ([(1, 0)], [(1, 0)]))


class Refused(RefusalTestCase):
    def refused(self, refusal, ask, handed, numbers):
        kept = list(numbers)
        self.assert_refused(refusal, ask, handed, numbers)
        self.assertEqual(numbers, kept)

    def test_other_lists_are_no_names(self):
        for right in [TURNED, list(range(10))] + drawn_names(3):
            for wrong in wrong_lists_of(right):
                self.refused(NoNames, renamed, ((1, 0), (2,), ()), wrong)
                self.refused(NoNames, floor_renamed, Floor(3, 4, 2, [(1, 0)]), wrong)

    def test_wrong_names_are_refused_also_where_no_crate_is_called_by_them(self):
        for wrong in [[0, 1, 2], [0] * 10, [0, 1, 2, 3, 4, 5, 6, 7, 8, 10], [0, 1, 2, 3, 4, 5, 6, 7, 8, 8]]:
            self.refused(NoNames, renamed, ((), ()), wrong)
            self.refused(NoNames, renamed, ((1, 0), ()), wrong)
            self.refused(NoNames, floor_renamed, Floor(2, 1, 1, []), wrong)
            self.refused(NoNames, floor_renamed, Floor(2, 1, 1, [(1, 0)]), wrong)

    def test_other_lists_are_no_order(self):
        for standing in STANDINGS:
            for order in itertools.permutations(range(len(standing))):
                for wrong in wrong_lists_of(list(order)):
                    self.refused(NoOrder, reordered, standing, wrong)

    def test_an_order_of_another_number_of_stacks(self):
        for standing in STANDINGS:
            for many in range(11):
                if many != len(standing):
                    self.refused(NoOrder, reordered, standing, list(range(many)))

    def test_what_is_no_whole_number(self):
        for wrong in [True, None, "1", (1,)]:
            self.refused(NoOrder, reordered, ((1,), (2,)), [0, wrong])
            self.refused(NoNames, renamed, ((1,), (2,)), [0, wrong] + list(range(2, 10)))


class HeightsRenamed(unittest.TestCase):
    def test_heights_stay_where_all_is_renamed_by_the_same_names(self):
        for stacks, height, lift, bans, goal in FLOORS:
            floor = Floor(stacks, height, lift, bans)
            told = heights(floor, goal)
            self.assertGreater(len(told), 1)
            for names in drawn_names(4):
                called = [(renamed(standing, names), above) for standing, above in told]
                self.assertEqual(heights(floor_renamed(floor, names), renamed(goal, names)), sorted(called))

    def test_heights_stay_where_both_standings_are_put_in_the_same_order(self):
        for stacks, height, lift, bans, goal in FLOORS:
            floor = Floor(stacks, height, lift, bans)
            told = heights(floor, goal)
            for order in list(itertools.permutations(range(stacks)))[:: stacks - 1]:
                put = [(reordered(standing, list(order)), above) for standing, above in told]
                self.assertEqual(heights(floor, reordered(goal, list(order))), sorted(put))


if __name__ == "__main__":
    unittest.main()
