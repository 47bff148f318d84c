import unittest

from common import RefusalTestCase, lifts_by_the_document, standings_of
from cranefloor.errors import NoStanding, OtherCrates, TooMany
from cranefloor.floors import Floor, is_good
from cranefloor.lifts import after, lifts
from cranefloor.plans import come_to, heights, plan

BANS = [[], [(0, 1), (1, 0), (2, 3), (3, 1), (7, 4)]]

FLOORS = [
    (stacks, height, crane, bans)
    for stacks, height in [(2, 1), (2, 2), (2, 4), (3, 1), (3, 2), (3, 4), (4, 1), (4, 6)]
    for crane in [1, 2, 3]
    for bans in BANS
]

CRATES = [(), (4,), (1, 0), (0, 7, 4), (3, 1, 2, 0)]


def some_of(values, many):
    step = max(1, len(values) // many)
    return values[step // 2 :: step]


def heights_by_the_document(handed, goal):
    found = {}
    layer = {goal}
    while layer:
        found.update(dict.fromkeys(layer, max(found.values(), default=-1) + 1))
        layer = set().union(*(lifts_by_the_document(handed, standing).values() for standing in layer)) - set(found)
    return found


def cases(budget):
    # The more standings there are, the longer each is asked for: so the fewer goals are taken of them.
    for handed in FLOORS:
        floor = Floor(*handed)
        for crates in CRATES:
            good = [standing for standing in standings_of(handed[0], crates) if is_good(floor, standing)]
            for goal in some_of(good, max(1, budget // max(1, len(good)))):
                yield handed, floor, good, goal


def standings_in(told):
    return [standing for standing, height in told]


def crates_of(standing):
    return sorted(crate for stack in standing for crate in stack)


class Heights(unittest.TestCase):
    def test_ordinary_heights(self):
        goal = ((1, 0), ())
        self.assertEqual(
            heights(Floor(2, 2, 1, []), goal),
            [(((), (0, 1)), 2), (((1,), (0,)), 1), (((1, 0), ()), 0)],
        )
        self.assertEqual(
            heights(Floor(2, 2, 2, []), goal),
            [
                (((), (0, 1)), 2),
                (((), (1, 0)), 1),
                (((0,), (1,)), 2),
                (((0, 1), ()), 3),
                (((1,), (0,)), 1),
                (((1, 0), ()), 0),
            ],
        )

    def test_a_ban_makes_a_way_longer(self):
        start = ((0, 1), (2,), (3,))
        goal = ((1,), (2, 0), (3,))
        self.assertEqual(dict(heights(Floor(3, 3, 1, []), goal))[start], 3)
        self.assertEqual(dict(heights(Floor(3, 3, 1, [(1, 3)]), goal))[start], 4)

    def test_arguments_go_by_their_names(self):
        told = heights(floor=Floor(2, 1, 1, []), goal=((7,), ()))
        self.assertEqual(told, [(((), (7,)), 1), (((7,), ()), 0)])

    def test_an_empty_floor_has_the_goal_alone(self):
        for stacks in range(2, 5):
            goal = ((),) * stacks
            self.assertEqual(heights(Floor(stacks, 6, 3, []), goal), [(goal, 0)])

    def test_a_goal_that_no_lift_leaves_stands_alone(self):
        goal = ((0,), (1,), (2,))
        self.assertEqual(heights(Floor(3, 1, 3, []), goal), [(goal, 0)])

    def test_the_heights_are_the_fewest_lifts_of_all_standings_come_to(self):
        for handed, floor, good, goal in cases(1000):
            self.assertEqual(heights(floor, goal), sorted(heights_by_the_document(handed, goal).items()))

    def test_they_are_tuples_in_order_and_none_twice(self):
        for handed, floor, good, goal in cases(100):
            told = heights(floor, goal)
            self.assertIsInstance(told, list)
            for pair in told:
                self.assertIsInstance(pair, tuple)
                self.assertEqual(len(pair), 2)
                self.assertIs(is_good(floor, pair[0]), True)
                self.assertEqual(crates_of(pair[0]), crates_of(goal))
            standings = standings_in(told)
            self.assertEqual(standings, sorted(set(standings)))

    def test_the_goal_alone_has_nought(self):
        for handed, floor, good, goal in cases(100):
            self.assertEqual([standing for standing, height in heights(floor, goal) if height <= 0], [goal])
            self.assertEqual(dict(heights(floor, goal))[goal], 0)

    def test_each_lift_that_is_let_changes_the_height_by_one_at_most_and_one_lowers_it(self):
        for handed, floor, good, goal in cases(100):
            told = dict(heights(floor, goal))
            for standing, height in told.items():
                near = [told[after(floor, standing, lift)] - height for lift in lifts(floor, standing)]
                self.assertTrue(set(near) <= {-1, 0, 1})
                self.assertEqual(-1 in near, height > 0)

    def test_the_height_of_one_above_the_other_is_that_of_the_other_above_the_one(self):
        for handed, floor, good, goal in cases(40):
            for standing, height in some_of(heights(floor, goal), 3):
                self.assertEqual(dict(heights(floor, standing))[goal], height)

    def test_the_list_told_is_the_askers_own(self):
        floor = Floor(3, 3, 2, [(2, 0)])
        goal = ((1, 0), (2,), ())
        told = heights(floor, goal)
        kept = list(told)
        told.reverse()
        told[0] = (goal, 7)
        self.assertEqual(heights(floor, goal), kept)
        told.clear()
        self.assertEqual(heights(floor, goal), kept)
        self.assertEqual(come_to(floor, goal), standings_in(kept))
        self.assertIsNot(heights(floor, goal), heights(floor, goal))


class ComeTo(unittest.TestCase):
    def test_ordinary_standings(self):
        self.assertEqual(
            come_to(Floor(2, 2, 1, []), ((1, 0), ())),
            [((), (0, 1)), ((1,), (0,)), ((1, 0), ())],
        )

    def test_arguments_go_by_their_names(self):
        self.assertEqual(come_to(floor=Floor(2, 1, 1, []), standing=((), (7,))), [((), (7,)), ((7,), ())])

    def test_a_standing_is_come_to_from_itself(self):
        for stacks in range(2, 5):
            for standing in [((),) * stacks, tuple((crate,) for crate in range(stacks))]:
                self.assertEqual(come_to(Floor(stacks, 1, 3, []), standing), [standing])

    def test_the_greatest_floor_has_every_standing(self):
        told = come_to(Floor(4, 6, 1, []), ((), (9, 0), (5,), (3,)))
        self.assertEqual(told, sorted(standings_of(4, (0, 3, 5, 9))))

    def test_they_are_the_very_standings_of_the_heights_in_order(self):
        for handed, floor, good, standing in cases(200):
            told = come_to(floor, standing)
            self.assertIsInstance(told, list)
            self.assertEqual(told, sorted(heights_by_the_document(handed, standing)))
            self.assertEqual(told, standings_in(heights(floor, standing)))
            self.assertEqual(told.count(standing), 1)

    def test_what_is_come_to_from_one_is_come_to_from_each_of_them(self):
        for handed, floor, good, standing in cases(40):
            told = come_to(floor, standing)
            for other in some_of(told, 3):
                self.assertEqual(come_to(floor, other), told)
            for other in some_of([left for left in good if left not in told], 3):
                self.assertNotIn(standing, come_to(floor, other))

    def test_the_list_told_is_the_askers_own(self):
        floor = Floor(3, 3, 2, [(2, 0)])
        standing = ((1, 0), (2,), ())
        told = come_to(floor, standing)
        kept = list(told)
        told.reverse()
        told[0] = ((), (), ())
        self.assertEqual(come_to(floor, standing), kept)
        told.clear()
        self.assertEqual(come_to(floor, standing), kept)
        self.assertEqual(standings_in(heights(floor, standing)), kept)
        self.assertIsNot(come_to(floor, standing), come_to(floor, standing))


class Plans(unittest.TestCase):
    def check_plan(self, floor, start, goal, fewest):
        told = plan(floor, start, goal)
        self.assertIsInstance(told, tuple)
        self.assertEqual((len(told), told[0]), (2, "plan"))
        self.assertIsInstance(told[1], list)
        self.assertEqual(len(told[1]), fewest)
        standing = start
        for lift in told[1]:
            self.assertIn(lift, lifts(floor, standing))
            standing = after(floor, standing, lift)
        self.assertEqual(standing, goal)

    def test_ordinary_plans(self):
        floor = Floor(2, 2, 1, [])
        self.assertEqual(plan(floor, ((1, 0), ()), ((), (0, 1))), ("plan", [(0, 1, 1), (0, 1, 1)]))
        self.assertEqual(plan(floor, ((), (0, 1)), ((1, 0), ())), ("plan", [(1, 0, 1), (1, 0, 1)]))
        self.assertEqual(plan(Floor(2, 2, 2, []), ((1, 0), ()), ((), (1, 0))), ("plan", [(0, 1, 2)]))

    def test_ordinary_shut_goals(self):
        self.assertEqual(
            plan(Floor(2, 2, 1, []), ((1, 0), ()), ((), (1, 0))),
            ("shut", [((), (0, 1)), ((1,), (0,)), ((1, 0), ())]),
        )
        self.assertEqual(plan(Floor(2, 1, 3, []), ((0,), (1,)), ((1,), (0,))), ("shut", [((0,), (1,))]))

    def test_arguments_go_by_their_names(self):
        told = plan(floor=Floor(2, 1, 1, []), start=((7,), ()), goal=((), (7,)))
        self.assertEqual(told, ("plan", [(0, 1, 1)]))

    def test_a_ban_shuts_a_goal(self):
        start = ((0,), (1,))
        goal = ((1,), (0,))
        self.check_plan(Floor(2, 2, 2, []), start, goal, 3)
        self.assertEqual(plan(Floor(2, 2, 2, [(0, 1), (1, 0)]), start, goal), ("shut", [start]))

    def test_a_weaker_crane_needs_more_lifts(self):
        start = ((0, 1, 2), (), (), ())
        goal = ((), (0, 1, 2), (), ())
        for crane, fewest in [(1, 5), (2, 3), (3, 1)]:
            self.check_plan(Floor(4, 3, crane, []), start, goal, fewest)

    def test_start_and_goal_the_same_take_no_lift(self):
        for handed, floor, good, standing in cases(100):
            self.assertEqual(plan(floor, standing, standing), ("plan", []))

    def test_a_plan_has_as_many_lifts_as_the_start_is_high_or_the_goal_is_shut(self):
        asked = {"plan": 0, "shut": 0}
        for handed, floor, good, goal in cases(100):
            above = heights_by_the_document(handed, goal)
            self.assertEqual(dict(heights(floor, goal)), above)
            for start in some_of(good, 4):
                if start in above:
                    self.check_plan(floor, start, goal, above[start])
                    asked["plan"] += 1
                else:
                    shut = ("shut", sorted(heights_by_the_document(handed, start)))
                    self.assertEqual(plan(floor, start, goal), shut)
                    self.assertEqual(plan(floor, start, goal), ("shut", come_to(floor, start)))
                    asked["shut"] += 1
        self.assertGreater(min(asked.values()), 100)

    def test_a_goal_is_come_to_from_a_start_just_where_the_start_is_from_the_goal(self):
        for handed, floor, good, goal in cases(40):
            for start in some_of(good, 2):
                there = plan(floor, start, goal)
                back = plan(floor, goal, start)
                self.assertEqual(there[0], back[0])
                self.assertEqual(there[0] == "plan", goal in come_to(floor, start))
                self.assertEqual(there[0] == "plan", start in come_to(floor, goal))

    def test_the_list_within_the_answer_is_the_askers_own(self):
        floor = Floor(2, 2, 1, [])
        start = ((1, 0), ())
        for goal in [start, ((), (0, 1)), ((), (1, 0))]:
            told = plan(floor, start, goal)
            kept = (told[0], list(told[1]))
            told[1].append((9, 9, 9))
            self.assertEqual(plan(floor, start, goal), kept)
            told[1].clear()
            self.assertEqual(plan(floor, start, goal), kept)
            self.assertIsNot(plan(floor, start, goal)[1], plan(floor, start, goal)[1])
        self.assertEqual(come_to(floor, start), [((), (0, 1)), ((1,), (0,)), ((1, 0), ())])

    def test_bans_changed_later_change_no_plan(self):
        handed = [(0, 1)]
        floor = Floor(2, 2, 1, handed)
        start = ((0,), (1,))
        told = plan(floor, start, ((0, 1), ()))
        handed[0] = (1, 0)
        self.assertEqual(told, ("plan", [(1, 0, 1)]))
        self.assertEqual(plan(floor, start, ((0, 1), ())), told)
        self.assertEqual(handed, [(1, 0)])


class Refused(RefusalTestCase):
    floor = Floor(3, 3, 2, [(1, 0)])
    good = ((0,), (2,), ())
    many = ((0, 2), (3, 4), (5,))
    wrong = [
        (),
        ((0,), (2,)),
        ((0,), (2,), (), ()),
        ((2, 2), (0,), ()),
        ((2,), (0,), (2,)),
        ((-1,), (), ()),
        ((10,), (), ()),
        ((2, 3, 4, 5), (), ()),
        ((0, 1), (), ()),
        ((0, 1), (2, 3), (4, 5)),
        ((2, 3, 4, 5, 6, 7), (8,), (9,)),
    ]

    def test_a_standing_that_is_not_good(self):
        for wrong in self.wrong:
            self.assert_refused(NoStanding, come_to, self.floor, wrong)
            self.assert_refused(NoStanding, heights, self.floor, wrong)
            self.assert_refused(NoStanding, plan, self.floor, wrong, self.good)
            self.assert_refused(NoStanding, plan, self.floor, self.good, wrong)
            self.assert_refused(NoStanding, plan, self.floor, wrong, wrong)

    def test_more_than_four_crates(self):
        for stacks in range(2, 5):
            floor = Floor(stacks, 5, 1, [])
            for many in range(5, 11):
                standing = (tuple(range(5)), tuple(range(5, many))) + ((),) * (stacks - 2)
                self.assert_refused(TooMany, come_to, floor, standing)
                self.assert_refused(TooMany, heights, floor, standing)
                self.assert_refused(TooMany, plan, floor, standing, standing)
                self.assert_refused(TooMany, plan, floor, standing, standing[::-1])

    def test_four_crates_are_not_too_many(self):
        floor = Floor(2, 6, 3, [])
        standing = ((9, 8, 7, 6), ())
        self.assertIn((standing, 0), heights(floor, standing))
        self.assertIn(standing, come_to(floor, standing))
        self.assertEqual(plan(floor, standing, standing), ("plan", []))

    def test_a_standing_that_is_not_good_is_refused_ahead_of_too_many(self):
        for wrong in self.wrong:
            self.assert_refused(NoStanding, plan, self.floor, self.many, wrong)
            self.assert_refused(NoStanding, plan, self.floor, wrong, self.many)

    def test_too_many_asks_the_first_standing_alone(self):
        self.assert_refused(OtherCrates, plan, self.floor, self.good, self.many)
        self.assert_refused(OtherCrates, plan, self.floor, ((0, 2), (3, 4), ()), self.many)
        self.assert_refused(OtherCrates, plan, self.floor, ((), (), ()), self.many)

    def test_too_many_is_refused_ahead_of_other_crates(self):
        self.assert_refused(TooMany, plan, self.floor, self.many, self.good)
        self.assert_refused(TooMany, plan, self.floor, self.many, ((0, 2), (3, 4), (6,)))
        self.assert_refused(TooMany, plan, self.floor, self.many, ((), (), ()))

    def test_a_standing_that_is_not_good_is_refused_ahead_of_other_crates(self):
        self.assert_refused(NoStanding, plan, self.floor, self.good, ((0, 1), (3,), ()))
        self.assert_refused(NoStanding, plan, self.floor, self.good, ((0,), (2,), (2,)))
        self.assert_refused(NoStanding, plan, self.floor, self.good, ((0,), (2,)))

    def test_unlike_crates(self):
        for goal in [((), (), ()), ((0,), (), ()), ((0,), (3,), ()), ((0,), (2,), (3,)), ((4, 5), (), ())]:
            self.assert_refused(OtherCrates, plan, self.floor, self.good, goal)
            self.assert_refused(OtherCrates, plan, self.floor, goal, self.good)

    def test_crates_of_the_same_sum_are_unlike(self):
        self.assert_refused(OtherCrates, plan, self.floor, ((1,), (4,), ()), ((2,), (3,), ()))

    def test_the_same_crates_elsewhere_are_not_unlike(self):
        for goal in [((2,), (0,), ()), ((), (), (2, 0)), ((0, 2), (), ())]:
            self.assertEqual(plan(self.floor, self.good, goal)[0], "plan")

    def test_unlike_crates_are_refused_where_nothing_is_come_to_either(self):
        floor = Floor(2, 1, 1, [])
        self.assert_refused(OtherCrates, plan, floor, ((0,), (1,)), ((0,), (2,)))


if __name__ == "__main__":
    unittest.main()
