"""Grounds, numbers, and what is reckoned with them."""

import unittest
from fractions import Fraction
from math import gcd
from random import Random

from fewmirrors.errors import NoGround, NoNumber, OverNought
from fewmirrors.numbers import (
    is_ground, is_number, is_square, less, number, over, plus, root_of, show_number, times,
)
from tests.helper import GROUNDS, WHEELS, any_things, as_fraction, expected, of_fraction, small_numbers, wide_numbers


class Grounds(unittest.TestCase):
    def test_each_ground(self):
        for ground in GROUNDS:
            self.assertIs(is_ground(ground), True)

    def test_other_whole_numbers(self):
        for whole in list(range(-20, 40)) + [10 ** 199, -10 ** 199]:
            self.assertIs(is_ground(whole), whole in GROUNDS)

    def test_any_things(self):
        for thing in any_things() + [(0, 1), (3, 1)]:
            self.assertIs(is_ground(thing), False, thing)


class Numbers(unittest.TestCase):
    def test_any_things(self):
        for ground in GROUNDS:
            for thing in any_things() + [0, 1, 2, -1]:
                self.assertIs(is_number(ground, thing), False, (ground, thing))

    def test_small_fractions(self):
        for top in range(-13, 14):
            for bottom in range(-13, 14):
                right = bottom >= 1 and gcd(top, bottom) == 1
                self.assertIs(is_number(0, (top, bottom)), right, (top, bottom))

    def test_nought_is_written_one_way(self):
        self.assertIs(is_number(0, (0, 1)), True)
        for bottom in (0, -1, 2, 3, 10 ** 50):
            self.assertIs(is_number(0, (0, bottom)), False)

    def test_wheels(self):
        for wheel in WHEELS:
            for top in range(-2 * wheel, 2 * wheel + 1):
                for bottom in range(-wheel, wheel + 2):
                    right = 0 <= top < wheel and bottom == 1
                    self.assertIs(is_number(wheel, (top, bottom)), right, (wheel, top, bottom))
            self.assertIs(is_number(wheel, (10 ** 199, 1)), False)

    def test_truths_are_no_whole_numbers(self):
        for ground in GROUNDS:
            for thing in ((True, 1), (1, True), (False, 1), (True, True), (0, True), (False, True)):
                self.assertIs(is_number(ground, thing), False)

    def test_lists_are_no_numbers(self):
        for ground in GROUNDS:
            self.assertIs(is_number(ground, [1, 1]), False)
            self.assertIs(is_number(ground, [(1, 1)]), False)
            self.assertIs(is_number(ground, ((1, 1), (1, 1))), False)

    def test_six_hundred_figures(self):
        for x in wide_numbers(1, 20, 600):
            self.assertIs(is_number(0, x), True)
            self.assertIs(is_number(0, (x[0], -x[1])), False)
            self.assertIs(is_number(0, (3 * x[0], 3 * x[1])), False)
            self.assertIs(is_number(3, x), False)
        # Neighbours of Fibonacci's row need the most steps of all.
        a, b = 0, 1
        while len(str(b)) < 600:
            a, b = b, a + b
        self.assertIs(is_number(0, (a, b)), True)
        self.assertIs(is_number(0, (-a, b)), True)
        self.assertIs(is_number(0, (2 * a, 2 * b)), False)

    def test_a_list_inside_stays_as_it_was(self):
        thing = ([1, 2], [3])
        is_number(0, thing)
        self.assertEqual(thing, ([1, 2], [3]))


class NumberOfTwo(unittest.TestCase):
    def test_fractions(self):
        for top in range(-12, 13):
            for bottom in range(-12, 13):
                if bottom:
                    self.assertEqual(number(0, top, bottom), of_fraction(Fraction(top, bottom)))

    def test_wheels(self):
        for wheel in WHEELS:
            for top in range(-20, 21):
                for bottom in range(-20, 21):
                    if bottom % wheel:
                        x = number(wheel, top, bottom)
                        self.assertIs(is_number(wheel, x), True)
                        self.assertEqual((x[0] * bottom - top) % wheel, 0)

    def test_bottom_left_out(self):
        self.assertEqual(number(0, -7), (-7, 1))
        self.assertEqual(number(0, 0), (0, 1))
        self.assertEqual(number(5, -7), (3, 1))
        self.assertEqual(number(5, 10), (0, 1))

    def test_bottom_by_its_name(self):
        self.assertEqual(number(0, 6, bottom=-4), (-3, 2))
        self.assertEqual(number(7, 1, bottom=2), (4, 1))

    def test_nought(self):
        for bottom in (1, -1, 7, -12, 10 ** 99):
            self.assertEqual(number(0, 0, bottom), (0, 1))

    def test_a_hundred_figures(self):
        random = Random(2)
        for step in range(40):
            top, bottom = random.randint(-10 ** 100, 10 ** 100), random.randint(1, 10 ** 100)
            shared = random.randint(1, 10 ** 40)
            self.assertEqual(number(0, top, bottom), of_fraction(Fraction(top, bottom)))
            top, bottom = top // 10 ** 40 * shared, -(bottom // 10 ** 40 + 1) * shared
            self.assertEqual(number(0, top, bottom), of_fraction(Fraction(top, bottom)))
            for wheel in WHEELS:
                if bottom % wheel:
                    self.assertEqual(number(wheel, top, bottom), (top * pow(bottom, -1, wheel) % wheel, 1))

    def test_no_ground(self):
        for ground in any_things() + [1, 2, 4, -3, 9, 15, (0, 1), (3, 1)]:
            for bottom in (1, 0, 3):
                with self.assertRaises(NoGround):
                    number(ground, 1, bottom)

    def test_over_nought(self):
        with self.assertRaises(OverNought) as caught:
            number(0, -7, 0)
        self.assertEqual(caught.exception.top, (-7, 1))
        with self.assertRaises(OverNought) as caught:
            number(0, 0, bottom=0)
        self.assertEqual(caught.exception.top, (0, 1))

    def test_over_nought_on_a_wheel(self):
        for wheel in WHEELS:
            for bottom in (0, wheel, -wheel, 4 * wheel, wheel ** 20):
                for top in (0, 1, -1, wheel, 10 ** 99):
                    with self.assertRaises(OverNought) as caught:
                        number(wheel, top, bottom)
                    self.assertEqual(caught.exception.top, (top % wheel, 1))


def reckoned(ground, x, y):
    """What the four ways to reckon should come to; None over nought."""
    a, b = as_fraction(x), as_fraction(y)
    return [expected(ground, value) for value in (a + b, a - b, a * b)] + [expected(ground, a / b) if b else None]


class Reckoning(unittest.TestCase):
    def check(self, ground, x, y):
        told = [plus(ground, x, y), less(ground, x, y), times(ground, x, y)]
        if y[0] == 0:
            with self.assertRaises(OverNought) as caught:
                over(ground, x, y)
            self.assertEqual(caught.exception.top, x)
            told.append(None)
        else:
            told.append(over(ground, x, y))
        self.assertEqual(told, reckoned(ground, x, y), (ground, x, y))

    def test_small_numbers_of_each_ground(self):
        for ground in GROUNDS:
            for x in small_numbers(ground):
                for y in small_numbers(ground):
                    self.check(ground, x, y)

    def test_what_comes_is_a_number(self):
        for ground in GROUNDS:
            for x in small_numbers(ground):
                for y in small_numbers(ground):
                    for told in (plus(ground, x, y), less(ground, x, y), times(ground, x, y)):
                        self.assertIs(is_number(ground, told), True)

    def test_six_hundred_figures(self):
        told = wide_numbers(3, 12, 600) + [(0, 1), (1, 1), (-1, 1), (10 ** 599, 1), (1, 10 ** 599)]
        for x in told:
            for y in told:
                self.check(0, x, y)
            self.check(0, x, (-x[0], x[1]))

    def test_equal_and_contrary_numbers(self):
        for x in wide_numbers(4, 5, 600):
            contrary = (-x[0], x[1])
            self.assertEqual(plus(0, x, contrary), (0, 1))
            self.assertEqual(less(0, x, x), (0, 1))
            self.assertEqual(over(0, x, x), (1, 1))
            self.assertEqual(over(0, x, contrary), (-1, 1))

    def test_over_nought_tells_the_very_top(self):
        for ground in GROUNDS:
            for x in small_numbers(ground):
                with self.assertRaises(OverNought) as caught:
                    over(ground, x, (0, 1))
                self.assertEqual(caught.exception.top, x)


class Squares(unittest.TestCase):
    def refused(self, ground, x):
        self.assertIs(is_square(ground, x), False, (ground, x))
        with self.assertRaises(NoNumber):
            root_of(ground, x)

    def taken(self, ground, x, root):
        self.assertIs(is_square(ground, x), True, (ground, x))
        self.assertEqual(root_of(ground, x), root)

    def test_wheels(self):
        for wheel in WHEELS:
            roots = {}
            for a in reversed(range(wheel)):
                roots[a * a % wheel] = a
            for a in range(wheel):
                if a in roots:
                    self.taken(wheel, (a, 1), (roots[a], 1))
                else:
                    self.refused(wheel, (a, 1))
            self.assertEqual(len(roots), (wheel + 1) // 2)

    def test_small_fractions(self):
        roots = {Fraction(a, b) ** 2: Fraction(a, b) for a in range(0, 12) for b in range(1, 12)}
        for top in range(-5, 101):
            for bottom in range(1, 101):
                value = Fraction(top, bottom)
                if value in roots:
                    self.taken(0, of_fraction(value), of_fraction(roots[value]))
                else:
                    self.refused(0, of_fraction(value))

    def test_nought(self):
        for ground in GROUNDS:
            self.taken(ground, (0, 1), (0, 1))

    def test_large_squares_and_their_neighbours(self):
        for figures in (1, 2, 8, 9, 15, 16, 17, 30, 31, 100, 299, 300):
            for x in wide_numbers(figures, 6, figures):
                top, bottom = abs(x[0]), x[1]
                self.taken(0, (top * top, bottom * bottom), (top, bottom))
                self.refused(0, (-top * top, bottom * bottom))
                self.refused(0, (top * top + 1, 1))
                self.refused(0, (1, bottom * bottom + 1))
                if top > 1:
                    self.refused(0, (top * top - 1, 1))
                if bottom > 1:
                    self.refused(0, (1, bottom * bottom - 1))

    def test_a_square_times_what_is_no_square(self):
        for x in wide_numbers(5, 8, 250):
            square = as_fraction(x) ** 2
            for factor in (2, 3, -1, Fraction(1, 2), Fraction(2, 3), Fraction(8, 9), -4):
                self.refused(0, of_fraction(square * factor))
            for factor in (4, Fraction(1, 4), Fraction(9, 25)):
                self.assertIs(is_square(0, of_fraction(square * factor)), True)

    def test_bottom_alone_or_top_alone(self):
        self.refused(0, (4, 3))
        self.refused(0, (3, 4))
        self.taken(0, (9, 4), (3, 2))


class Written(unittest.TestCase):
    def test_numbers(self):
        for x, text in (
            ((3, 1), "3"), ((-2, 1), "-2"), ((1, 2), "1/2"), ((-7, 3), "-7/3"), ((0, 1), "0"), ((12, 1), "12"),
            ((10 ** 99, 7), "1" + "0" * 99 + "/7"),
        ):
            self.assertEqual(show_number(x), text)

    def test_wheels(self):
        for wheel in WHEELS:
            for a in range(wheel):
                self.assertEqual(show_number((a, 1)), str(a))

    def test_six_hundred_figures(self):
        x = ("9" * 600, "1" + "0" * 599)
        self.assertEqual(show_number((-int(x[0]), int(x[1]))), "-" + x[0] + "/" + x[1])


class SameAnswers(unittest.TestCase):
    def test_the_same_question_behind_others(self):
        questions = [
            (is_ground, (7,)), (is_ground, (True,)), (is_number, (0, (1, 2))), (is_number, (3, (1, 2))),
            (number, (0, 4, 6)), (number, (5, 4, 6)), (plus, (0, (1, 2), (1, 3))), (plus, (3, (1, 1), (2, 1))),
            (over, (7, (3, 1), (5, 1))), (over, (0, (3, 1), (5, 1))), (is_square, (5, (4, 1))),
            (is_square, (0, (4, 1))), (root_of, (13, (12, 1))), (root_of, (0, (16, 9))), (show_number, ((1, 2),)),
        ]
        first = [ask(*told) for ask, told in questions]
        for ask, told in ((over, (0, (1, 1), (0, 1))), (root_of, (0, (2, 1))), (number, (4, 1))):
            with self.assertRaises((OverNought, NoNumber, NoGround)):
                ask(*told)
        self.assertEqual([ask(*told) for ask, told in reversed(questions)], first[::-1])


if __name__ == "__main__":
    unittest.main()
