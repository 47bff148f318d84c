import random
import unittest

from common import RefusalTestCase, standings_of
from cranefloor.errors import BadText
from cranefloor.notes import read, shown

WRITTEN = [
    (((1, 0), (2,), ()), "10/2/"),
    (((), ()), "/"),
    (((), (), ()), "//"),
    (((), (), (), ()), "///"),
    (((), (7,)), "/7"),
    (((7,), ()), "7/"),
    (((), (0,), ()), "/0/"),
    (((0, 1), (2, 3)), "01/23"),
    (((9,), (), (), (8,)), "9///8"),
    (((3, 1, 4), (5, 9, 2), (6, 8), (7, 0)), "314/592/68/70"),
    (((5, 4, 3, 2, 1, 0), (9, 8, 7, 6)), "543210/9876"),
]


class Shown(unittest.TestCase):
    def test_standings_are_written_sign_by_sign(self):
        for standing, text in WRITTEN:
            self.assertEqual(shown(standing), text)
            self.assertIsInstance(shown(standing), str)

    def test_each_crate_is_written_as_its_figure(self):
        for crate, figure in enumerate("0123456789"):
            self.assertEqual(shown(((crate,), ())), figure + "/")

    def test_arguments_go_by_their_names(self):
        self.assertEqual(shown(standing=((1,), (2,))), "1/2")
        self.assertEqual(read(text="1/2"), ((1,), (2,)))


class Read(unittest.TestCase):
    def test_texts_are_read_sign_by_sign(self):
        for standing, text in WRITTEN:
            self.assertEqual(read(text), standing)

    def test_what_is_read_is_a_tuple_of_tuples_of_whole_numbers(self):
        for text in ["10/2/", "/", "0123456789///"]:
            told = read(text)
            self.assertIs(type(told), tuple)
            for stack in told:
                self.assertIs(type(stack), tuple)
                for crate in stack:
                    self.assertIs(type(crate), int)

    def test_what_is_written_is_read_to_the_same_standing(self):
        for stacks in range(2, 5):
            for crates in [(), (0,), (9, 4), (8, 0, 3), (1, 2, 6, 7)]:
                for standing in standings_of(stacks, crates):
                    self.assertEqual(read(shown(standing)), standing)

    def test_drawn_standings_of_all_ten_crates(self):
        # A source that is sown draws the same standings at each run.
        source = random.Random(11)
        for time in range(200):
            signs = list("0123456789" + "/" * source.randint(1, 3))
            source.shuffle(signs)
            text = "".join(signs)
            self.assertEqual(shown(read(text)), text)

    def test_a_stack_may_be_higher_than_any_floor_lets(self):
        self.assertEqual(read("0123456/"), ((0, 1, 2, 3, 4, 5, 6), ()))
        self.assertEqual(read("//9876543210"), ((), (), (9, 8, 7, 6, 5, 4, 3, 2, 1, 0)))


class Refused(RefusalTestCase):
    def refused(self, text):
        self.assert_refused(BadText, read, text)

    def test_every_other_sign_at_every_place(self):
        signs = ["\t", "\n", "\r"] + [chr(k) for k in range(ord(" "), ord("~") + 1)]
        for sign in signs:
            if sign in "0123456789/":
                continue
            for text in ["10/2/", "/", "5/"]:
                for place in range(len(text) + 1):
                    self.refused(text[:place] + sign + text[place:])

    def test_a_blank_a_tab_and_a_line_end_are_not_left_out(self):
        for blank in [" ", "\t", "\n", "\r\n"]:
            for text in [blank + "1/2", "1/2" + blank, "1" + blank + "/2", "1/" + blank + "2", blank + "/" + blank]:
                self.refused(text)

    def test_signs_that_python_reads_in_a_number(self):
        for text in ["-1/2", "+1/2", "1/-2", "1_0/2", "1/+", "1/-", "1.0/2", "0x1/2", "1e2/3"]:
            self.refused(text)

    def test_figures_of_other_scripts(self):
        for text in ["\u0661/2", "1/\u00b2", "\uff11/2", "1\u2044" + "2/"]:
            self.refused(text)

    def test_a_crate_twice_in_one_stack(self):
        for figure in "0123456789":
            self.refused(figure + figure + "/")
            self.refused("/" + figure + figure)
        self.refused("121/")
        self.refused("3//0120")

    def test_a_crate_twice_in_two_stacks(self):
        for figure in "0123456789":
            self.refused(figure + "/" + figure)
            self.refused(figure + "///" + figure)
        self.refused("12/31")
        self.refused("0123456789/0")
        self.refused("01/23/45/60")

    def test_fewer_than_two_stacks(self):
        for text in ["", "0", "12", "0123456789"]:
            self.refused(text)

    def test_more_than_four_stacks(self):
        for text in ["////", "1/2/3/4/5", "1////", "////1", "/////", "1/2/3/4/", "/1/2/3/4", "/" * 60]:
            self.refused(text)

    def test_two_to_four_stacks_are_read(self):
        for many in range(1, 61):
            if 2 <= many + 1 <= 4:
                self.assertEqual(read("/" * many), ((),) * (many + 1))
            else:
                self.refused("/" * many)

    def test_long_texts(self):
        for text in ["1" * 60, "0123456789" * 6, "1/" * 30, " " * 60, "a" * 60]:
            self.refused(text)


if __name__ == "__main__":
    unittest.main()
