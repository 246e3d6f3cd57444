"""Rows of mirrors that lead a row to another one, or to a multiple of it."""

import unittest
from random import Random

from fewmirrors.errors import NoPlace, NoRow, NoWorth
from fewmirrors.leading import leading, led
from fewmirrors.numbers import is_number, is_square
from tests.helper import (
    GROUNDS, AllKeepers, all_rows, as_fraction, expected, most_letters, multiple, no_rows, ones, plain_mirrored,
    plain_pair, planes, refusal, row_gap, row_sum, sample_forms, small_numbers, some_mirrors, some_row, squares,
    wholes, wide_numbers,
)


def led_by(form, row, mirrors):
    for by in mirrors:
        row = plain_mirrored(form, row, by)
    return row


class Checks(unittest.TestCase):
    def assert_mirrors(self, form, mirrors):
        self.assertIs(type(mirrors), list)
        for by in mirrors:
            self.assertNotEqual(plain_pair(form, by, by), (0, 1))

    def assert_leads(self, form, row, other):
        told = leading(form, row, other)
        self.assert_mirrors(form, told)
        self.assertEqual(led_by(form, row, told), other)
        gap = row_gap(form.ground, row, other)
        if row == other:
            self.assertEqual(told, [])
        elif plain_pair(form, gap, gap) != (0, 1):
            self.assertEqual(len(told), 1)
        else:
            self.assertEqual(len(told), 2)
        return told

    def assert_led(self, form, row, other):
        told = led(form, row, other)
        self.assertIs(type(told), tuple)
        word, mirrors, c = told
        self.assertEqual(word, "led")
        self.assert_mirrors(form, mirrors)
        self.assertLessEqual(len(mirrors), 2)
        self.assertIs(is_number(form.ground, c), True)
        self.assertEqual(led_by(form, row, mirrors), multiple(form.ground, other, c))


class Leading(Checks):
    def test_samples(self):
        random = Random(140)
        for ground in GROUNDS:
            for form in sample_forms(ground):
                for many in (0, 1, 2, 3):
                    row = some_row(random, form)
                    other = led_by(form, row, some_mirrors(random, form, many))
                    self.assert_leads(form, row, other)

    def test_the_same_and_contrary_rows(self):
        random = Random(141)
        for ground in GROUNDS:
            for form in sample_forms(ground):
                row = some_row(random, form)
                self.assertEqual(leading(form, row, row), [])
                self.assertEqual(len(self.assert_leads(form, row, multiple(ground, row, (-1, 1)))), 1)

    def test_a_difference_of_worth_nought(self):
        random = Random(142)
        for ground in GROUNDS:
            for many in range(3, most_letters(ground) + 1):
                form = planes(ground, many)
                nought = ones(many)[0]
                found = 0
                while found < 5:
                    row = some_row(random, form)
                    other = row_sum(ground, row, nought)
                    if plain_pair(form, row, row) == plain_pair(form, other, other):
                        self.assertEqual(len(self.assert_leads(form, row, other)), 2)
                        found += 1

    def test_all_rows_of_small_wheels(self):
        for form in (squares(3, 1), squares(3, 2), planes(3, 2), squares(5, 2), planes(3, 3), squares(3, 3)):
            rows = all_rows(form.ground, len(form))
            worths = {row: plain_pair(form, row, row) for row in rows}
            lines = AllKeepers(form).lines
            for row in rows[::1 if len(form) < 3 else 4]:
                steps = {plain_mirrored(form, row, by) for by in lines}
                for other in rows:
                    if (0, 1) in (worths[row], worths[other]):
                        self.assertIs(refusal(leading, form, row, other), NoWorth)
                    elif worths[row] != worths[other]:
                        self.assertIs(refusal(leading, form, row, other), NoPlace)
                    else:
                        told = self.assert_leads(form, row, other)
                        self.assertEqual(len(told) == 1, row != other and other in steps)

    def test_many_figures(self):
        form = squares(0, 2)
        one, other = wide_numbers(143, 2, 200)
        self.assert_leads(form, (one, other), (other, one))
        self.assert_leads(form, (one, other), (one, (-other[0], other[1])))

    def test_a_new_list_each_time(self):
        form = planes(0, 3)
        row, other = wholes(0, (0, 0, 1), (1, 0, 1))
        for pair in ((row, row), (row, multiple(0, row, (-1, 1))), (row, other)):
            told = leading(form, *pair)
            again = leading(form, *pair)
            self.assertEqual(told, again)
            told.append(None)
            self.assertEqual(leading(form, *pair), again)
            self.assertIsNot(again, told)

    def test_by_names(self):
        row, other = wholes(0, (1, 2), (2, 1))
        self.assertEqual(leading(other=other, row=row, form=squares(0, 2)), leading(squares(0, 2), row, other))

    def test_refusals_in_order(self):
        for ground in GROUNDS:
            for many in range(1, most_letters(ground) + 1):
                form = planes(ground, many)
                right, nought = form.frame()[0], ((0, 1),) * many
                for thing in no_rows(form):
                    for other in (right, nought):
                        self.assertIs(refusal(leading, form, thing, other), NoRow)
                        self.assertIs(refusal(leading, form, other, thing), NoRow)
                self.assertIs(refusal(leading, form, right, nought), NoWorth)
                self.assertIs(refusal(leading, form, nought, right), NoWorth)
                self.assertIs(refusal(leading, form, nought, nought), NoWorth)
                if many > 1:
                    self.assertIs(refusal(leading, form, ones(many)[0], ones(many)[0]), NoWorth)
                    self.assertIs(refusal(leading, form, right, ones(many)[0]), NoWorth)
                if ground != 3:
                    self.assertIs(refusal(leading, form, right, multiple(ground, right, (2, 1))), NoPlace)


class Led(Checks):
    def test_samples(self):
        random = Random(144)
        for ground in GROUNDS:
            for form in sample_forms(ground):
                for step in range(8):
                    row, other = some_mirrors(random, form, 2)
                    worths = [as_fraction(plain_pair(form, x, x)) for x in (row, other)]
                    if is_square(ground, expected(ground, worths[0] * worths[1])):
                        self.assert_led(form, row, other)
                    else:
                        self.assertIsNone(led(form, row, other))

    def test_multiples(self):
        random = Random(145)
        for ground in GROUNDS:
            factors = [x for x in small_numbers(ground) if x[0]]
            for form in sample_forms(ground):
                for factor in random.sample(factors, 2) + (wide_numbers(146, 2, 100) if ground == 0 else []):
                    row = some_row(random, form)
                    other = multiple(ground, led_by(form, row, some_mirrors(random, form, 2)), factor)
                    self.assert_led(form, row, other)
                    self.assert_led(form, row, multiple(ground, row, factor))

    def test_many_figures(self):
        form = squares(0, 2)
        one, other, factor = wide_numbers(147, 3, 200)
        self.assert_led(form, (one, other), multiple(0, (other, one), factor))
        self.assertIsNone(led(form, (one, other), multiple(0, ((1, 1), (1, 1)), factor)))

    def test_known_ones(self):
        form = squares(0, 2)
        self.assertIsNone(led(form, *wholes(0, (1, 0), (1, 1))))
        self.assert_led(form, *wholes(0, (1, 0), (3, 4)))
        self.assertIsNone(led(planes(0, 2), *wholes(0, (1, 1), (1, -1))))
        self.assert_led(planes(5, 2), *wholes(5, (1, 1), (1, -1)))
        self.assertIsNone(led(planes(7, 2), *wholes(7, (1, 1), (1, -1))))

    def test_all_rows_of_small_wheels(self):
        for form in (squares(3, 2), planes(5, 2), squares(5, 2), planes(7, 2)):
            rows = all_rows(form.ground, 2)
            for row in rows[::3]:
                for other in rows:
                    worths = [plain_pair(form, x, x)[0] for x in (row, other)]
                    if 0 in worths:
                        self.assertIs(refusal(led, form, row, other), NoWorth)
                    elif worths[0] * worths[1] % form.ground in {x * x % form.ground for x in range(form.ground)}:
                        self.assert_led(form, row, other)
                    else:
                        self.assertIsNone(led(form, row, other))

    def test_a_new_list_each_time(self):
        form = squares(0, 2)
        row, other = wholes(0, (1, 0), (3, 4))
        told = led(form=form, other=other, row=row)
        again = led(form, row, other)
        self.assertEqual(told, again)
        told[1].clear()
        self.assertEqual(led(form, row, other), again)
        self.assertNotEqual(told, again)

    def test_refusals_in_order(self):
        for ground in GROUNDS:
            for many in range(1, most_letters(ground) + 1):
                form = planes(ground, many)
                right, nought = form.frame()[0], ((0, 1),) * many
                for thing in no_rows(form):
                    for other in (right, nought):
                        self.assertIs(refusal(led, form, thing, other), NoRow)
                        self.assertIs(refusal(led, form, other, thing), NoRow)
                self.assertIs(refusal(led, form, right, nought), NoWorth)
                self.assertIs(refusal(led, form, nought, right), NoWorth)
                if many > 1:
                    self.assertIs(refusal(led, form, ones(many)[0], right), NoWorth)
                    self.assertIs(refusal(led, form, right, ones(many)[0]), NoWorth)


if __name__ == "__main__":
    unittest.main()
