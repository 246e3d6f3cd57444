"""Mirrors exchanged with their neighbours, or begun otherwise."""

import unittest
from random import Random

from fewmirrors.errors import NoPlace, NoRow, NoWorth
from fewmirrors.exchanges import exchanged, otherwise
from fewmirrors.keepers import made_of
from tests.helper import (
    GROUNDS, AllKeepers, all_rows, any_things, as_fraction, expected, most_letters, multiple, no_rows, objects, ones,
    plain_made, plain_mirrored, plain_pair, planes, rank, refusal, row_sum, sample_forms, some_mirrors, some_number,
    spans_row, squares, wholes, wide_numbers,
)

NO_PLACES = [-1, -2, -10 ** 200, 10 ** 200, True, False, None, "0", "", [0], (0,), (0, 1), []]


class Exchanged(unittest.TestCase):
    def test_each_place(self):
        random = Random(180)
        for ground in GROUNDS:
            for form in sample_forms(ground):
                for many in (2, 3, 5):
                    rows = some_mirrors(random, form, many)
                    before = list(rows)
                    for place in range(many - 1):
                        told = exchanged(form, rows, place)
                        self.assertIs(type(told), list)
                        one, other = rows[place], rows[place + 1]
                        pair = [other, plain_mirrored(form, one, other)]
                        self.assertEqual(told, rows[:place] + pair + rows[place + 2:])
                        self.assertEqual(plain_made(form, told), plain_made(form, rows))
                        self.assertEqual(rows, before)

    def test_sixteen_mirrors(self):
        for ground in GROUNDS:
            form = squares(ground, 2)
            rows = some_mirrors(Random(181), form, 16)
            for place in (0, 7, 14):
                self.assertEqual(made_of(form, exchanged(form, rows, place)), made_of(form, rows))
            self.assertIs(refusal(exchanged, form, rows, 15), NoPlace)

    def test_known_ones(self):
        rows = list(wholes(0, (1, 0), (1, 1)))
        told = exchanged(place=0, rows=rows, form=squares(0, 2))
        self.assertEqual(told, list(wholes(0, (1, 1), (0, -1))))
        self.assertEqual(exchanged(squares(0, 2), list(wholes(0, (1, 0), (0, 1))), 0), list(wholes(0, (0, 1), (1, 0))))
        self.assertEqual(exchanged(squares(0, 1), list(wholes(0, (2,), (3,))), 0), list(wholes(0, (3,), (-2,))))

    def test_what_is_done_to_the_lists(self):
        form = squares(0, 2)
        rows = list(wholes(0, (1, 0), (1, 1), (1, 2)))
        told = exchanged(form, rows, 1)
        again = list(told)
        rows.clear()
        self.assertEqual(told, again)
        rows.extend(wholes(0, (1, 0), (1, 1), (1, 2)))
        told.clear()
        self.assertEqual(exchanged(form, rows, 1), again)

    def test_many_figures(self):
        one, other = wide_numbers(182, 2, 200)
        form = squares(0, 2)
        rows = [(one, other), ((1, 1), (2, 1))]
        told = exchanged(form, rows, 0)
        self.assertEqual(told, [rows[1], plain_mirrored(form, rows[0], rows[1])])
        self.assertEqual(made_of(form, told), made_of(form, rows))

    def test_refusals_in_order(self):
        for ground in GROUNDS:
            for many in range(1, most_letters(ground) + 1):
                form = planes(ground, many)
                right, nought = form.frame()[0], ((0, 1),) * many
                for thing in no_rows(form):
                    self.assertIs(refusal(exchanged, form, [thing], 0), NoRow)
                    self.assertIs(refusal(exchanged, form, [right, nought, thing], 7), NoRow)
                for thing in any_things() + objects() + [0, right, (right, right), (), ones(many)]:
                    if thing != []:
                        self.assertIs(refusal(exchanged, form, thing, 0), NoRow)
                        self.assertIs(refusal(exchanged, form, thing, None), NoRow)
                self.assertIs(refusal(exchanged, form, [right, nought], 0), NoWorth)
                self.assertIs(refusal(exchanged, form, [right, right, nought], 0), NoWorth)
                self.assertIs(refusal(exchanged, form, [nought], None), NoWorth)
                if many > 1:
                    self.assertIs(refusal(exchanged, form, [ones(many)[0], right], True), NoWorth)

    def test_places(self):
        for ground in GROUNDS:
            for form in (squares(ground, 1), planes(ground, 4)):
                row = form.frame()[0]
                for many in (0, 1, 2, 3):
                    for place in NO_PLACES + any_things() + objects() + list(range(many - 1, many + 3)):
                        if not (type(place) is int and 0 <= place < many - 1):
                            self.assertIs(refusal(exchanged, form, [row] * many, place), NoPlace)
                    for place in range(many - 1):
                        self.assertIs(refusal(exchanged, form, [row] * many, place), None)


def between(form, random, row, other):
    """A row of worth other than nought that two rows span."""
    while True:
        first = row_sum(form.ground, *[
            multiple(form.ground, x, some_number(random, form.ground)) for x in (row, other)
        ])
        if plain_pair(form, first, first) != (0, 1):
            return first


class Otherwise(unittest.TestCase):
    def assert_otherwise(self, form, row, other, first):
        told = otherwise(form, row, other, first)
        self.assertIs(type(told), tuple)
        self.assertEqual(len(told), 2)
        self.assertEqual(told[0], first)
        self.assertNotEqual(plain_pair(form, told[1], told[1]), (0, 1))
        self.assertEqual(plain_made(form, told), plain_made(form, [row, other]))

    def test_samples(self):
        random = Random(183)
        for ground in GROUNDS:
            for form in sample_forms(ground):
                for step in range(6):
                    row, other = some_mirrors(random, form, 2)
                    if rank(ground, (row, other)) == 2:
                        self.assert_otherwise(form, row, other, between(form, random, row, other))
                        self.assert_otherwise(form, row, other, row)
                        self.assert_otherwise(form, row, other, other)
                        self.assert_otherwise(form, row, other, multiple(ground, other, (2, 1)))

    def test_a_plane_with_a_row_upright_to_all_of_it(self):
        random = Random(184)
        for ground in GROUNDS:
            form = planes(ground, 3)
            row, other = wholes(ground, (0, 0, 1), (1, 0, 1))
            self.assertEqual(plain_pair(form, row, other), plain_pair(form, row, row))
            for step in range(5):
                self.assert_otherwise(form, row, other, between(form, random, row, other))

    def test_all_rows_of_small_wheels(self):
        for form in (squares(3, 2), planes(5, 2), squares(3, 3), planes(3, 3)):
            rows = all_rows(form.ground, len(form))
            lines = AllKeepers(form).lines
            for row in lines[::2]:
                for other in lines[::3]:
                    for first in rows:
                        if rank(form.ground, (row, other)) < 2 or not spans_row(form.ground, (row, other), first):
                            self.assertIs(refusal(otherwise, form, row, other, first), NoRow)
                        elif plain_pair(form, first, first) == (0, 1):
                            self.assertIs(refusal(otherwise, form, row, other, first), NoWorth)
                        else:
                            self.assert_otherwise(form, row, other, first)

    def test_by_names(self):
        row, other, first = wholes(0, (1, 0), (0, 1), (1, 1))
        told = otherwise(first=first, other=other, row=row, form=squares(0, 2))
        self.assertEqual(told, otherwise(squares(0, 2), row, other, first))

    def test_many_figures(self):
        numbers = wide_numbers(185, 2, 100)
        row, other = (numbers[0], (1, 1)), ((1, 1), numbers[1])
        first = tuple(expected(0, as_fraction(x) - as_fraction(y)) for x, y in zip(row, other))
        self.assert_otherwise(squares(0, 2), row, other, first)

    def test_no_rows_ahead_of_no_worths(self):
        for ground in GROUNDS:
            for many in range(1, most_letters(ground) + 1):
                form = planes(ground, many)
                right, nought = form.frame()[0], ((0, 1),) * many
                for thing in no_rows(form):
                    for other in (right, nought):
                        self.assertIs(refusal(otherwise, form, thing, other, right), NoRow)
                        self.assertIs(refusal(otherwise, form, right, thing, other), NoRow)
                        self.assertIs(refusal(otherwise, form, other, right, thing), NoRow)
                twice = multiple(ground, right, (2, 1))
                for row, other in ((right, right), (right, twice), (right, nought), (nought, right)):
                    for first in (right, nought):
                        self.assertIs(refusal(otherwise, form, row, other, first), NoRow)
                self.assertIs(refusal(otherwise, form, nought, nought, nought), NoRow)

    def test_what_the_two_don_t_span(self):
        for ground in GROUNDS:
            for many in range(3, most_letters(ground) + 1):
                for form in (squares(ground, many), planes(ground, many)):
                    rows = form.frame()
                    self.assertIs(refusal(otherwise, form, rows[0], rows[1], rows[2]), NoRow)
            form = planes(ground, 4)
            # The first two have worth nought; NoRow comes ahead all the same.
            self.assertIs(refusal(otherwise, form, ones(4)[0], ones(4)[1], ones(4)[2]), NoRow)

    def test_no_worths(self):
        for ground in GROUNDS:
            form = planes(ground, 2)
            one, other = wholes(ground, (1, 0), (0, 1))
            right, contrary = wholes(ground, (1, 1), (1, -1))
            self.assertIs(refusal(otherwise, form, one, right, right), NoWorth)
            self.assertIs(refusal(otherwise, form, right, one, right), NoWorth)
            self.assertIs(refusal(otherwise, form, right, contrary, other), NoWorth)
            self.assertIs(refusal(otherwise, form, right, contrary, ((0, 1), (0, 1))), NoWorth)
            self.assertIs(refusal(otherwise, form, right, contrary, right), None)


if __name__ == "__main__":
    unittest.main()
