"""The keeper that moves nothing, mirrors, and what rows of mirrors make."""

import unittest
from random import Random

from fewmirrors.errors import NoRow, NoWorth, TooMany
from fewmirrors.keepers import Keeper, made_of, mirror, same
from fewmirrors.numbers import number
from tests.helper import (
    GROUNDS, any_things, contrary_ones, most_letters, multiple, no_rows, objects, ones, plain_made, plain_mirrored,
    plain_pair, planes, refusal, sample_forms, small_numbers, some_mirrors, some_row, some_table, squares, wholes,
    wide_numbers,
)


class Same(unittest.TestCase):
    def test_moves_nothing(self):
        for ground in GROUNDS:
            for form in sample_forms(ground):
                keeper = same(form=form)
                self.assertIs(type(keeper), Keeper)
                self.assertEqual((keeper.form, keeper.table), (form, ones(len(form))))


class Mirrors(unittest.TestCase):
    def test_known_ones(self):
        told = mirror(squares(0, 2), wholes(0, (1, 2))[0]).table
        self.assertEqual(told, wholes(0, ("3/5", "-4/5"), ("-4/5", "-3/5")))
        self.assertEqual(mirror(planes(0, 2), wholes(0, (1, 1))[0]).table, wholes(0, (0, -1), (-1, 0)))
        self.assertEqual(mirror(squares(7, 2), wholes(7, (1, 1))[0]).table, wholes(7, (0, 6), (6, 0)))

    def test_where_rows_are_led(self):
        random = Random(130)
        for ground in GROUNDS:
            for form in sample_forms(ground):
                by = some_row(random, form)
                keeper = mirror(row=by, form=form)
                self.assertIs(type(keeper), Keeper)
                self.assertEqual(keeper.form, form)
                self.assertEqual(keeper.of(by), multiple(ground, by, (-1, 1)))
                for row in some_table(random, ground, 3, len(form)):
                    self.assertEqual(keeper.of(row), plain_mirrored(form, row, by))
                for row in form.upright((by,)):
                    self.assertEqual(keeper.of(row), row)
                self.assertEqual(keeper.then(keeper), same(form))
                self.assertEqual(keeper.hand(), -1)

    def test_by_a_multiple(self):
        random = Random(131)
        for ground in GROUNDS:
            factors = [x for x in small_numbers(ground) if x[0]]
            factors += wide_numbers(132, 3, 200) if ground == 0 else []
            for form in sample_forms(ground):
                by = some_row(random, form)
                for factor in factors[::7] + factors[-1:]:
                    self.assertEqual(mirror(form, multiple(ground, by, factor)), mirror(form, by))

    def test_many_figures(self):
        numbers = wide_numbers(133, 2, 600)
        form = squares(0, 2)
        self.assertEqual(mirror(form, tuple(numbers)).table, plain_made(form, [tuple(numbers)]))

    def test_refusals(self):
        for ground in GROUNDS:
            for many in range(1, most_letters(ground) + 1):
                form = planes(ground, many)
                for thing in no_rows(form):
                    self.assertIs(refusal(mirror, form, thing), NoRow)
                self.assertIs(refusal(mirror, form, ((0, 1),) * many), NoWorth)
                if many > 1:
                    self.assertIs(refusal(mirror, form, ones(many)[0]), NoWorth)
        self.assertIs(refusal(mirror, squares(5, 2), wholes(5, (1, 2))[0]), NoWorth)


class Made(unittest.TestCase):
    def test_of_none_to_sixteen(self):
        random = Random(134)
        for ground in GROUNDS:
            for form in sample_forms(ground):
                for many in (0, 1, 2, 3, random.randint(4, 15), 16):
                    rows = some_mirrors(random, form, many)
                    before = list(rows)
                    keeper = made_of(rows=rows, form=form)
                    self.assertIs(type(keeper), Keeper)
                    self.assertEqual((keeper.form, keeper.table), (form, plain_made(form, rows)))
                    self.assertEqual(rows, before)
                    self.assertEqual(keeper.hand(), (-1) ** many)

    def test_one_after_another(self):
        random = Random(135)
        for ground in GROUNDS:
            for form in sample_forms(ground):
                rows = some_mirrors(random, form, 5)
                told = same(form)
                for row in rows:
                    told = told.then(mirror(form, row))
                self.assertEqual(made_of(form, rows), told)
                self.assertEqual(made_of(form, rows[::-1]), told.back())
                self.assertEqual(made_of(form, rows[:2]).then(made_of(form, rows[2:])), told)

    def test_one_mirror_twice(self):
        random = Random(136)
        for ground in GROUNDS:
            for form in sample_forms(ground):
                one, other = some_mirrors(random, form, 2)
                self.assertEqual(made_of(form, [one, one]), same(form))
                self.assertEqual(made_of(form, [one, multiple(ground, one, (2, 1))]), same(form))
                self.assertEqual(made_of(form, [one] * 16), same(form))
                self.assertEqual(made_of(form, [one, other, other]), mirror(form, one))

    def test_a_frame_makes_all_contrary(self):
        for ground in GROUNDS:
            for form in sample_forms(ground):
                self.assertEqual(made_of(form, list(form.frame())).table, contrary_ones(ground, len(form)))

    def test_the_list_changed_behind(self):
        for ground in GROUNDS:
            form = squares(ground, 2)
            rows = [wholes(ground, (1, 0))[0], wholes(ground, (0, 1))[0]]
            keeper = made_of(form, rows)
            rows.append(ones(2)[0])
            rows[0] = None
            self.assertEqual(keeper.table, contrary_ones(ground, 2))
            rows.clear()
            self.assertEqual(keeper, Keeper(form, contrary_ones(ground, 2)))

    def test_many_figures(self):
        random = Random(137)
        for many in range(1, 6):
            form = squares(0, many)
            rows = [tuple(number(0, random.randint(1, 10 ** 100)) for at in range(many)) for step in range(4)]
            self.assertEqual(made_of(form, rows).table, plain_made(form, rows))

    def test_no_rows(self):
        for ground in GROUNDS:
            for many in range(1, most_letters(ground) + 1):
                form = planes(ground, many)
                right = form.frame()[0]
                for thing in no_rows(form):
                    self.assertIs(refusal(made_of, form, [thing]), NoRow)
                    self.assertIs(refusal(made_of, form, [right, thing]), NoRow)
                    self.assertIs(refusal(made_of, form, [right] * 20 + [thing]), NoRow)
                    self.assertIs(refusal(made_of, form, [((0, 1),) * many, thing]), NoRow)
                for thing in any_things() + objects() + [0, right, (right,), (), {right: 1}, "", [[right]]]:
                    if thing != []:
                        self.assertIs(refusal(made_of, form, thing), NoRow)

    def test_too_many_ahead_of_no_worth(self):
        for ground in GROUNDS:
            for many in range(1, most_letters(ground) + 1):
                form = planes(ground, many)
                right, nought = form.frame()[0], ((0, 1),) * many
                self.assertIsNone(refusal(made_of, form, [right] * 16))
                self.assertIs(refusal(made_of, form, [right] * 17), TooMany)
                self.assertIs(refusal(made_of, form, [right] * 600), TooMany)
                self.assertIs(refusal(made_of, form, [nought] + [right] * 16), TooMany)
                self.assertIs(refusal(made_of, form, [right] * 15 + [nought]), NoWorth)
                self.assertIs(refusal(made_of, form, [nought]), NoWorth)
                if many > 1:
                    self.assertEqual(plain_pair(form, ones(many)[0], ones(many)[0]), (0, 1))
                    self.assertIs(refusal(made_of, form, [right, ones(many)[0]]), NoWorth)


if __name__ == "__main__":
    unittest.main()
