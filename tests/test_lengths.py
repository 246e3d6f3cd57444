"""Length classes of keepers, and numbers of one class."""

import unittest
from random import Random

from fewmirrors.errors import NoNumber
from fewmirrors.fewest import mirrors_of
from fewmirrors.keepers import made_of, same
from fewmirrors.lengths import are_alike, length_class
from fewmirrors.numbers import is_number
from fewmirrors.seats import seats_of
from tests.helper import (
    GROUNDS, WHEELS, AllKeepers, any_things, as_fraction, expected, multiple, objects, plain_determinant, plain_pair,
    refusal, sample_forms, sample_keepers, sliding_keepers, small_numbers, some_mirrors, some_row, squares, planes,
    wide_numbers, wholes,
)


def plain_root(whole):
    """Whether a whole number from 0 on is a square."""
    low, high = 0, whole + 1
    while high - low > 1:
        middle = (low + high) // 2
        low, high = (middle, high) if middle * middle <= whole else (low, middle)
    return low * low == whole


def plain_square(ground, x):
    """Whether a number is a square, told by trying."""
    if ground:
        return x[0] in {a * a % ground for a in range(ground)}
    return x[0] >= 0 and plain_root(x[0]) and plain_root(x[1])


def together(ground, numbers):
    """The product of some numbers."""
    told = as_fraction((1, 1))
    for x in numbers:
        told = as_fraction(expected(ground, told * as_fraction(x)))
    return expected(ground, told)


def worths(form, rows):
    return together(form.ground, [plain_pair(form, row, row) for row in rows])


class Classes(unittest.TestCase):
    def assert_class(self, keeper, x):
        told = length_class(keeper)
        ground = keeper.form.ground
        self.assertIs(is_number(ground, told), True)
        self.assertNotEqual(told, (0, 1))
        self.assertIs(plain_square(ground, together(ground, [told, x])), True)

    def test_told_mirrors(self):
        for ground in GROUNDS:
            for keeper in sample_keepers(ground):
                self.assert_class(keeper, worths(keeper.form, mirrors_of(keeper)))

    def test_other_mirrors(self):
        random = Random(190)
        for ground in GROUNDS:
            for form in sample_forms(ground):
                for many in (1, 2, 3, 6):
                    rows = some_mirrors(random, form, many)
                    one = some_row(random, form)
                    keeper = made_of(form, rows)
                    self.assert_class(keeper, worths(form, rows))
                    self.assert_class(keeper, worths(form, [one] + rows + [one]))
                    self.assert_class(made_of(form, [one] + rows + [one, one]), worths(form, [one] + rows))

    def test_determinant_of_the_seats(self):
        for ground in GROUNDS:
            for keeper in sample_keepers(ground):
                seats = seats_of(keeper)[1]
                self.assert_class(keeper, plain_determinant(ground, seats) if seats else (1, 1))

    def test_nothing_moved(self):
        for ground in GROUNDS:
            for form in sample_forms(ground):
                self.assert_class(same(form), (1, 1))
                self.assertIs(plain_square(ground, length_class(keeper=same(form))), True)

    def test_only_rows_of_worth_nought(self):
        for ground in GROUNDS:
            for keeper in sliding_keepers(ground):
                self.assert_class(keeper, (1, 1))

    def test_known_ones(self):
        form = squares(0, 2)
        for row, other, alike in (((1, 1), (1, 0), (2, 1)), ((1, 2), (1, 1), (10, 1)), ((2, 0), (0, 3), (1, 1))):
            keeper = made_of(form, list(wholes(0, row, other)))
            self.assert_class(keeper, alike)
            self.assertIs(are_alike(0, length_class(keeper), alike), True)
            self.assertIs(are_alike(0, length_class(keeper), (3, 1)), False)

    def test_of_two_keepers_together(self):
        random = Random(191)
        for ground in GROUNDS:
            for form in sample_forms(ground):
                one, other = (made_of(form, some_mirrors(random, form, many)) for many in (2, 3))
                told = together(ground, [length_class(one), length_class(other)])
                self.assert_class(one.then(other), told)
                self.assert_class(one.back(), length_class(one))

    def test_all_keepers_of_small_wheels(self):
        for form in (squares(3, 2), planes(5, 2), squares(3, 3)):
            for keeper, count in AllKeepers(form).keepers():
                self.assert_class(keeper, worths(form, mirrors_of(keeper)))


class Alike(unittest.TestCase):
    def test_small_numbers(self):
        for ground in GROUNDS:
            numbers = [x for x in small_numbers(ground) if x[0]]
            for x in numbers:
                for y in numbers:
                    self.assertIs(are_alike(ground, x, y), plain_square(ground, together(ground, [x, y])))

    def test_squares_times_one_number(self):
        for x in wide_numbers(192, 5, 100) + [(3, 1), (-1, 2)]:
            for factor in wide_numbers(193, 3, 100) + [(2, 3), (-7, 1)]:
                y = together(0, [x, factor, factor])
                self.assertIs(are_alike(0, x, y), True)
                self.assertIs(are_alike(y=y, x=x, ground=0), True)
                self.assertIs(are_alike(0, x, multiple(0, (y,), (-1, 1))[0]), False)
                self.assertIs(are_alike(0, x, multiple(0, (y,), (2, 1))[0]), False)

    def test_known_ones(self):
        self.assertIs(are_alike(0, (2, 1), (8, 1)), True)
        self.assertIs(are_alike(0, (2, 1), (1, 2)), True)
        self.assertIs(are_alike(0, (-1, 1), (1, 1)), False)
        self.assertIs(are_alike(0, (-1, 1), (-4, 9)), True)
        self.assertIs(are_alike(5, (1, 1), (4, 1)), True)
        self.assertIs(are_alike(7, (1, 1), (6, 1)), False)

    def test_refusals(self):
        for ground in GROUNDS:
            wrong = any_things() + objects() + [0, 1, (0, 1), (1, 0), (2, 2), (1, -1), (True, 1), (1, True), (1, 1, 1)]
            wrong += [(ground, 1), (-1, 1), (1, 2)] if ground else [(0, 2), (2, 4)]
            for thing in wrong:
                for other in ((1, 1), (0, 1), None, thing):
                    self.assertIs(refusal(are_alike, ground, thing, other), NoNumber)
                    self.assertIs(refusal(are_alike, ground, other, thing), NoNumber)
        for wheel in WHEELS:
            self.assertIs(refusal(are_alike, wheel, (wheel + 1, 1), (1, 1)), NoNumber)


if __name__ == "__main__":
    unittest.main()
