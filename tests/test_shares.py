"""Points 5, 6 and 9 (is_share), and point 3 as far as it is about shares."""

import copy
import inspect
import random
import unittest
from fractions import Fraction

from restbodies import shares
from restbodies.bounds import FIGURES
from restbodies.errors import NoShare
from restbodies.shares import (
    NOUGHT, WHOLE, is_share, least, minus, on_one_bottom, order, over, plus, read_share, share, share_text, times,
)

THIRTY = 123456789012345678901234567890
LONG = 7 ** 4730  # 3998 figures
ALSO_LONG = 3 ** 8380  # 3999 figures


def fraction(one):
    return Fraction(*one)


def told(value):
    value = Fraction(value)
    return (value.numerator, value.denominator)


def some_shares():
    dice = random.Random(5)
    many = [NOUGHT, WHOLE, (-1, 1), (1, 2), (-1, 2), (1, 3), (-2, 3), (6, 35), (35, 6), (-15, 14), (10 ** 30, 7)]
    for _ in range(14):
        many.append(told(Fraction(dice.randint(-40, 40), dice.randint(1, 30))))
    for _ in range(4):
        many.append(told(Fraction(dice.randint(-10 ** 40, 10 ** 40), dice.randint(1, 10 ** 35))))
    return many


class Cases(unittest.TestCase):

    def assert_no_share(self, call, *given):
        with self.assertRaises(NoShare) as caught:
            call(*given)
        self.assertIs(type(caught.exception), NoShare)


class Interface(unittest.TestCase):

    def test_values(self):
        self.assertEqual((NOUGHT, WHOLE), ((0, 1), (1, 1)))

    def test_arguments(self):
        for name, arguments in [
            ("is_share", "(thing)"), ("share", "(top, bottom=1)"), ("plus", "(one, other)"),
            ("minus", "(one, other)"), ("times", "(one, other)"), ("over", "(one, other)"),
            ("order", "(one, other)"), ("least", "(shares, *, default=(0, 1))"), ("share_text", "(one)"),
            ("read_share", "(text)"),
        ]:
            self.assertEqual(str(inspect.signature(getattr(shares, name))), arguments, name)
            self.assertEqual(getattr(shares, name).__module__, "restbodies.shares")


class Share(Cases):

    def test_lowest_terms(self):
        self.assertEqual(share(6, 4), (3, 2))
        self.assertEqual(share(-6, 4), (-3, 2))
        self.assertEqual(share(10, 5), (2, 1))
        self.assertEqual(share(7, 7), WHOLE)
        self.assertEqual(share(5, 2), (5, 2))

    def test_bottom_below_nought(self):
        self.assertEqual(share(6, -4), (-3, 2))
        self.assertEqual(share(-6, -4), (3, 2))
        self.assertEqual(share(1, -1), (-1, 1))

    def test_top_of_nought(self):
        for bottom in (1, 2, -2, 10 ** 50):
            self.assertEqual(share(0, bottom), NOUGHT)

    def test_bottom_left_out(self):
        for top in (0, 3, -3, THIRTY):
            self.assertEqual(share(top), (top, 1))

    def test_kinds(self):
        made = share(6, 4)
        self.assertIs(type(made), tuple)
        self.assertEqual([type(part) for part in made], [int, int])

    def test_thirty_figures(self):
        self.assertEqual(share(THIRTY * 14, THIRTY * 21), (2, 3))
        self.assertEqual(share(THIRTY, 10 ** 29), told(Fraction(THIRTY, 10 ** 29)))

    def test_thousands_of_figures(self):
        self.assertEqual(share(LONG, -ALSO_LONG), (-LONG, ALSO_LONG))
        self.assertEqual(share(LONG, 7 ** 4700), (7 ** 30, 1))
        self.assertEqual(share(10 ** 4000 - 1, 10 ** 3999 + 1), told(Fraction(10 ** 4000 - 1, 10 ** 3999 + 1)))

    def test_bottom_of_nought_is_refused(self):
        for top in (0, 1, -1, THIRTY):
            self.assert_no_share(share, top, 0)


class IsShare(Cases):

    def test_true(self):
        for thing in some_shares() + [(LONG, ALSO_LONG), (-LONG, ALSO_LONG)]:
            self.assertIs(is_share(thing), True)

    def test_false(self):
        for thing in [
            [1, 2], (1,), (1, 2, 3), (), [], (2, 4), (-2, 4), (3, 3), (1, 0), (0, 0), (1, -2), (-1, -1),
            (0, 2), (0, -1), (True, 1), (True, 2), (False, 1), (1, True), (0, True), (1, False), (True, True),
            "1/2", "12", "", None, True, False, 1, 0, {}, {1: 2}, {0: 0, 1: 1}, (1, None), (None, 1), ("1", "2"),
            ("1", 2), ((1, 2), 1), ((1, 2), (1, 2)), (1, (2,)), ([1], 2), [[]], ((),), [(1, 2)], ({}, 1),
            (10 ** 1000 - 1, 10 ** 999 * 3), (LONG, LONG),
        ]:
            with self.subTest(repr(thing)[:60]):
                self.assertIs(is_share(thing), False)


class Reckoning(Cases):

    def test_all_four_and_order(self):
        for one in some_shares():
            for other in some_shares():
                a, b = fraction(one), fraction(other)
                self.assertEqual(plus(one, other), told(a + b))
                self.assertEqual(minus(one, other), told(a - b))
                self.assertEqual(times(one, other), told(a * b))
                self.assertEqual(order(one, other), (a > b) - (a < b))
                if b == 0:
                    self.assert_no_share(over, one, other)
                else:
                    self.assertEqual(over(one, other), told(a / b))

    def test_by_hand(self):
        self.assertEqual(plus((1, 6), (1, 3)), (1, 2))
        self.assertEqual(plus((1, 2), (-1, 2)), NOUGHT)
        self.assertEqual(minus((1, 2), (1, 2)), NOUGHT)
        self.assertEqual(minus(NOUGHT, (1, 3)), (-1, 3))
        self.assertEqual(times((2, 3), (3, 2)), WHOLE)
        self.assertEqual(times((-2, 3), (9, 4)), (-3, 2))
        self.assertEqual(over((1, 2), (-1, 3)), (-3, 2))
        self.assertEqual(over(NOUGHT, (-5, 3)), NOUGHT)

    def test_long_ones(self):
        one, other = (LONG, ALSO_LONG), (-ALSO_LONG, LONG)
        a, b = fraction(one), fraction(other)
        self.assertEqual(plus(one, other), told(a + b))
        self.assertEqual(minus(one, other), told(a - b))
        self.assertEqual(minus(one, one), NOUGHT)
        self.assertEqual(times(one, other), (-1, 1))
        self.assertEqual(over(one, one), WHOLE)
        self.assertEqual(over(one, other), told(a / b))

    def test_over_by_nought_is_refused(self):
        for one in (NOUGHT, WHOLE, (-1, 2), (LONG, ALSO_LONG)):
            self.assert_no_share(over, one, NOUGHT)

    def test_order_of_two_a_hair_apart(self):
        for less, more in [
            ((10 ** 40, 10 ** 40 + 1), (10 ** 40 + 1, 10 ** 40 + 2)),
            ((LONG, ALSO_LONG), (LONG + 1, ALSO_LONG)),
            ((-1, 10 ** 3999), NOUGHT), (NOUGHT, (1, 10 ** 3999)),
            (told(Fraction(-1, 3)), told(Fraction(-333333333333, 10 ** 12))),
        ]:
            self.assertEqual(order(less, more), -1)
            self.assertEqual(order(more, less), 1)
            self.assertEqual(order(less, less), 0)
            self.assertEqual(order(more, more), 0)


class Least(Cases):

    def test_of_one_and_of_several(self):
        self.assertEqual(least([(5, 3)]), (5, 3))
        self.assertEqual(least([(5, 3)], default=(-9, 1)), (5, 3))
        self.assertEqual(least([(1, 2), (-1, 3), (1, 3), (-1, 4)]), (-1, 3))
        self.assertEqual(least([(-1, 2), (-1, 3)]), (-1, 2))
        self.assertEqual(least([(2, 1), (3, 2), (7, 5)]), (7, 5))
        self.assertEqual(least([WHOLE, WHOLE], default=NOUGHT), WHOLE)

    def test_of_an_empty_one(self):
        self.assertEqual(least([]), NOUGHT)
        self.assertEqual(least([], default=(7, 2)), (7, 2))
        self.assertIsNone(least([], default=None))

    def test_list_stays(self):
        many = some_shares()
        kept = copy.deepcopy(many)
        self.assertEqual(least(many), told(min([fraction(one) for one in many])))
        self.assertEqual(many, kept)


class Texts(Cases):

    def test_by_hand(self):
        for one, text in [(NOUGHT, "0"), ((-3, 1), "-3"), ((5, 2), "5/2"), ((-1, 3), "-1/3"), (WHOLE, "1"),
                          ((10, 1), "10"), ((100, 207), "100/207")]:
            self.assertEqual(share_text(one), text)
            self.assertEqual(read_share(text), one)

    def test_there_and_back(self):
        for one in some_shares():
            self.assertEqual(read_share(share_text(one)), one)

    def test_four_thousand_figures(self):
        nines = "9" * 4000
        self.assertEqual(share_text((int(nines), 1)), nines)
        self.assertEqual(share_text((-int(nines), 1)), "-" + nines)
        self.assertEqual(share_text((-int(nines), 10 ** 3999)), "-" + nines + "/1" + "0" * 3999)

    def test_just_as_many_figures(self):
        nines = "9" * FIGURES
        power = "1" + "0" * (FIGURES - 1)
        for text in [nines, "-" + nines, nines + "/" + power, "-" + nines + "/" + power, "1/" + nines,
                     power + "/" + nines]:
            one = read_share(text)
            self.assertTrue(is_share(one))
            self.assertEqual(share_text(one), text)

    def test_one_figure_more(self):
        more = "1" + "0" * FIGURES
        for text in [more, "-" + more, more + "/3", "-" + more + "/7", "1/" + more, "-3/" + more, more + "/1" + more,
                     "9" * 5000, "-" + "9" * 5000, "1/" + "9" * 5000, "0" * 5000, "1/" + "0" * 5000]:
            self.assert_no_share(read_share, text)

    def test_other_forms_are_refused(self):
        for text in [
            "", "+1", "+1/2", "1/+2", "+", "-", "--1", "+-1", "-+1", "1-", "01", "007", "00", "-01", "01/2", "1/02",
            "-0", "-0/1", "-0/2", "0/2", "0/1", "2/4", "-2/4", "6/3", "3/3", "1/1", "-5/1", "1/0", "0/0", "-1/0",
            " 1", "1 ", " 1/2", "1 /2", "1/ 2", "1/2 ", "1\n", "\n1", "1/2\n", "1\n/2", "1\t", "\n", " ", "1 2",
            "1//2", "1/2/3", "/", "/2", "1/", "-/2", "//", "1/-2", "-1/-2", "1/-", "1_0", "1/1_0", "1__0", "_1",
            "1.0", "1.", ".5", "1,0", "1e3", "0x1", "1a", "a", "1/a", "a/2", "1\\2", "1:2", "(1, 2)", "1/2a",
            "\u0663", "1/\u0663", "\u00b2", "\uff11", "\u2212" + "1", "None", "True",
        ]:
            with self.subTest(text):
                self.assert_no_share(read_share, text)


class OnOneBottom(unittest.TestCase):

    def test_tops_and_bottom(self):
        for given, due in [
            ([], ([], 1)), ([(3, 1)], ([3], 1)), ([(1, 2), (-1, 3)], ([3, -2], 6)), ([(1, 6), (3, 4)], ([2, 9], 12)),
            (((0, 1), (5, 7), (0, 1)), ([0, 5, 0], 7)),
        ]:
            self.assertEqual(on_one_bottom(given), due)
        tops, bottom = on_one_bottom(some_shares())
        self.assertEqual([told(Fraction(top, bottom)) for top in tops], some_shares())


if __name__ == "__main__":
    unittest.main()
