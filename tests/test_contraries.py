"""Contrary tables of keepers, keepers by contrary tables, and signs of a frame."""

import unittest
from itertools import product as ways
from random import Random

from fewmirrors.contraries import contrary_of, keeper_by, signs_for
from fewmirrors.errors import MirrorError, NoTable
from fewmirrors.forms import Form
from fewmirrors.keepers import Keeper, made_of, mirror, same
from fewmirrors.tables import is_table, turned
from tests.helper import (
    GROUNDS, AllKeepers, all_rows, as_fraction, contrary_ones, expected, flat_rank, most_letters, multiple, no_tables,
    ones, plain_back, plain_gap, plain_product, plain_sum, planes, rank, refusal, sample_forms, sample_keepers,
    sliding_keepers, some_mirrors, some_number, squares, wholes, wide_numbers, with_number,
)


def contrary(ground, table):
    """Each number's contrary."""
    return tuple(multiple(ground, row, (-1, 1)) for row in table)


def some_contrary(random, ground, many):
    """Any table that turned is its contrary."""
    told = (((0, 1),) * many,) * many
    for one in range(many):
        for other in range(one):
            x = some_number(random, ground)
            told = with_number(told, one, other, x)
            told = with_number(told, other, one, expected(ground, -as_fraction(x)))
    return told


def all_contrary(wheel, many):
    places = [(one, other) for one in range(many) for other in range(one)]
    for numbers in ways(range(wheel), repeat=len(places)):
        told = (((0, 1),) * many,) * many
        for (one, other), x in zip(places, numbers):
            told = with_number(told, one, other, (x, 1))
            told = with_number(told, other, one, (-x % wheel, 1))
        yield told


def full_rank(ground, table):
    return rank(ground, table) == len(table)


def sends_to_contrary(keeper):
    """Whether a keeper on a small wheel sends some row but noughts to its contrary."""
    ground = keeper.form.ground
    rows = all_rows(ground, len(keeper.form))[1:]
    return any(keeper.of(row) == multiple(ground, row, (-1, 1)) for row in rows)


class Checks(unittest.TestCase):
    def assert_contrary(self, keeper):
        """As the document's products tell it; the table, or None where 1 and the keeper's together are flat."""
        ground, many = keeper.form.ground, len(keeper.form)
        sums = plain_sum(ground, ones(many), keeper.table)
        if not full_rank(ground, sums):
            self.assertEqual(flat_rank(contrary_of, keeper), rank(ground, sums))
            return None
        told = contrary_of(keeper)
        self.assertIs(is_table(ground, told, many, many), True)
        self.assertEqual(turned(told), contrary(ground, told))
        gaps = plain_gap(ground, ones(many), keeper.table)
        c = plain_product(ground, gaps, plain_back(ground, sums))
        self.assertEqual(plain_product(ground, c, keeper.form.table), told)
        return told

    def assert_keeper_by(self, form, table):
        """As the document's products tell it; the keeper, or None where the two tables together are flat."""
        sums = plain_sum(form.ground, form.table, table)
        if not full_rank(form.ground, sums):
            self.assertEqual(flat_rank(keeper_by, form, table), rank(form.ground, sums))
            return None
        keeper = keeper_by(form, table)
        self.assertIs(type(keeper), Keeper)
        self.assertEqual(keeper.form, form)
        c = plain_product(form.ground, table, plain_back(form.ground, form.table))
        plus_c, less_c = plain_sum(form.ground, ones(len(form)), c), plain_gap(form.ground, ones(len(form)), c)
        self.assertEqual(plain_product(form.ground, less_c, plain_back(form.ground, plus_c)), keeper.table)
        self.assertEqual(keeper.hand(), 1)
        self.assertEqual(contrary_of(keeper), table)
        return keeper


class ContraryOf(Checks):
    def test_samples(self):
        found = 0
        for ground in GROUNDS:
            for keeper in sample_keepers(ground):
                told = self.assert_contrary(keeper)
                if told is not None:
                    found += 1
                    self.assertEqual(keeper_by(keeper.form, told), keeper)
                    self.assertEqual(contrary_of(keeper.back()), contrary(ground, told))
        self.assertGreater(found, 200)

    def test_only_rows_of_worth_nought(self):
        for ground in GROUNDS:
            for keeper in sliding_keepers(ground):
                told = self.assert_contrary(keeper)
                self.assertEqual(keeper_by(table=told, form=keeper.form), keeper)

    def test_known_ones(self):
        turn = Keeper(squares(0, 2), wholes(0, ("3/5", "4/5"), ("-4/5", "3/5")))
        self.assertEqual(contrary_of(keeper=turn), wholes(0, (0, "-1/2"), ("1/2", 0)))
        self.assertEqual(contrary_of(turn.back()), wholes(0, (0, "1/2"), ("-1/2", 0)))
        stretch = Keeper(planes(0, 2), wholes(0, (2, 0), (0, "1/2")))
        self.assertEqual(contrary_of(stretch), wholes(0, (0, "-1/3"), ("1/3", 0)))
        quarter = Keeper(squares(7, 2), wholes(7, (0, 1), (-1, 0)))
        self.assertEqual(contrary_of(quarter), wholes(7, (0, 6), (1, 0)))

    def test_nothing_moved(self):
        for ground in GROUNDS:
            for form in sample_forms(ground):
                noughts = (((0, 1),) * len(form),) * len(form)
                self.assertEqual(contrary_of(same(form)), noughts)
                self.assertEqual(keeper_by(form, noughts), same(form))

    def test_flat(self):
        random = Random(210)
        for ground in GROUNDS:
            for form in sample_forms(ground):
                many = len(form)
                rows = some_mirrors(random, form, 3)
                self.assertEqual(flat_rank(contrary_of, mirror(form, rows[0])), many - 1)
                self.assertEqual(flat_rank(contrary_of, Keeper(form, contrary_ones(ground, many))), 0)
                # A keeper of hand -1 sends some row to its contrary.
                self.assertLess(flat_rank(contrary_of, made_of(form, rows)), many)
                self.assertIsNone(refusal(contrary_of, same(form)))

    def test_all_keepers_of_small_wheels(self):
        for form in (squares(3, 1), squares(3, 2), planes(5, 2), squares(7, 2), squares(3, 3), planes(3, 3)):
            tables = []
            for keeper, count in AllKeepers(form).keepers():
                told = self.assert_contrary(keeper)
                self.assertEqual(told is None, sends_to_contrary(keeper))
                tables.append(told)
            found = [table for table in tables if table is not None]
            self.assertEqual(len(found), len(set(found)))
            by = [table for table in all_contrary(form.ground, len(form)) if flat_rank(keeper_by, form, table) is None]
            self.assertEqual(set(by), set(found))

    def test_many_figures(self):
        one, other = wide_numbers(211, 2, 150)
        form = squares(0, 2)
        told = self.assert_contrary(made_of(form, [(one, other), ((1, 1), one)]))
        self.assertEqual(keeper_by(form, told), made_of(form, [(one, other), ((1, 1), one)]))


class KeeperBy(Checks):
    def test_any_contrary_tables(self):
        random = Random(212)
        found = []
        for ground in GROUNDS:
            for form in sample_forms(ground):
                for step in range(6):
                    found.append(self.assert_keeper_by(form, some_contrary(random, ground, len(form))))
        self.assertGreater(len([keeper for keeper in found if keeper is not None]), 300)
        self.assertGreater(found.count(None), 20)

    def test_known_ones(self):
        self.assertEqual(
            keeper_by(squares(0, 2), wholes(0, (0, "-1/2"), ("1/2", 0))).table,
            wholes(0, ("3/5", "4/5"), ("-4/5", "3/5")),
        )
        stretch = keeper_by(planes(0, 2), wholes(0, (0, "-1/3"), ("1/3", 0)))
        self.assertEqual(stretch.table, wholes(0, (2, 0), (0, "1/2")))

    def test_flat(self):
        for ground in GROUNDS:
            self.assertEqual(flat_rank(keeper_by, planes(ground, 2), wholes(ground, (0, 1), (-1, 0))), 1)
            self.assertEqual(flat_rank(keeper_by, planes(ground, 2), wholes(ground, (0, -1), (1, 0))), 1)
            table = wholes(ground, (0, 1, 0, 0), (-1, 0, 0, 0), (0, 0, 0, 1), (0, 0, -1, 0))
            self.assertEqual(flat_rank(keeper_by, planes(ground, 4), table), 2)
            table = wholes(ground, (0, 1, 0), (-1, 0, 0), (0, 0, 0))
            self.assertEqual(flat_rank(keeper_by, planes(ground, 3), table), 2)
        # By 5, 1 and 2 times 2 together come to nought.
        self.assertEqual(flat_rank(keeper_by, squares(5, 2), wholes(5, (0, 2), (-2, 0))), 1)

    def test_all_contrary_tables_of_small_wheels(self):
        for form in (squares(3, 2), planes(3, 2), squares(5, 2), planes(7, 2), squares(3, 3), planes(3, 3)):
            for table in all_contrary(form.ground, len(form)):
                self.assert_keeper_by(form, table)
        for table in list(all_contrary(3, 4))[::5]:
            self.assert_keeper_by(squares(3, 4), table)

    def test_many_figures(self):
        x = wide_numbers(213, 1, 600)[0]
        self.assert_keeper_by(squares(0, 2), (((0, 1), x), ((-x[0], x[1]), (0, 1))))

    def test_no_tables(self):
        for ground in GROUNDS:
            for many in range(1, most_letters(ground) + 1):
                for form in (squares(ground, many), planes(ground, many)):
                    for thing in no_tables(many):
                        self.assertIs(refusal(keeper_by, form, thing), NoTable)

    def test_one_number_otherwise(self):
        random = Random(214)
        for ground in GROUNDS:
            for form in sample_forms(ground):
                right = some_contrary(random, ground, len(form))
                for one in range(len(form)):
                    for other in range(len(form)):
                        x = expected(ground, as_fraction(right[one][other]) + 1)
                        self.assertIs(refusal(keeper_by, form, with_number(right, one, other, x)), NoTable)
                        for wrong in (0, True, (False, 1), (0, True), [0, 1], (0, 2), None, "0", (), (0, 1, 1)):
                            thing = with_number(right, one, other, wrong)
                            self.assertIs(refusal(keeper_by, form, thing), NoTable)

    def test_kinds_and_sizes(self):
        random = Random(215)
        for ground in GROUNDS:
            for form in sample_forms(ground):
                many = len(form)
                right = some_contrary(random, ground, many)
                for thing in (
                    list(right), tuple(map(list, right)), right[1:], right + right[:1], (right,), form, same(form),
                    tuple(row + ((0, 1),) for row in right), some_contrary(random, ground, many + 1), 0,
                ):
                    self.assertIs(refusal(keeper_by, form, thing), NoTable)

    def test_numbers_of_another_ground(self):
        half = wholes(0, (0, "1/2"), ("-1/2", 0))
        self.assertIsNone(refusal(keeper_by, squares(0, 2), half))
        for ground in GROUNDS[1:]:
            for thing in (half, wholes(0, (0, 1), (-1, 0)), wholes(0, (0, ground), (-ground, 0))):
                self.assertIs(refusal(keeper_by, squares(ground, 2), thing), NoTable)
            self.assertIs(refusal(keeper_by, squares(0, 2), wholes(ground, (0, 1), (-1, 0))), NoTable)

    def test_no_table_ahead_of_flat(self):
        for ground in GROUNDS:
            for form in sample_forms(ground):
                # The form's contrary is no contrary table, and together with the form's it is flat.
                self.assertIs(refusal(keeper_by, form, contrary(ground, form.table)), NoTable)

    def test_flat_is_no_mirror_error(self):
        try:
            keeper_by(planes(0, 2), wholes(0, (0, 1), (-1, 0)))
        except ArithmeticError as error:
            self.assertNotIsInstance(error, MirrorError)
            self.assertIs(type(error.rank), int)


class SignsFor(Checks):
    def assert_signs(self, keeper):
        form = keeper.form
        signs = signs_for(keeper)
        self.assertIs(type(signs), tuple)
        self.assertEqual(len(signs), len(form))
        for sign in signs:
            self.assertIs(type(sign), int)
            self.assertIn(sign, (1, -1))
        rows = [row for row, sign in zip(form.frame(), signs) if sign == -1]
        behind = keeper.then(made_of(form, rows))
        self.assertIs(full_rank(form.ground, plain_sum(form.ground, ones(len(form)), behind.table)), True)
        table = contrary_of(behind)
        # And back: the keeper by the table, and then the same mirrors from the last.
        self.assertEqual(keeper_by(form, table).then(made_of(form, rows[::-1])), keeper)
        self.assertEqual(signs_for(keeper), signs)
        self.assertEqual(signs_for(Keeper(Form(form.table, form.ground), keeper.table)), signs)
        return signs

    def test_samples(self):
        for ground in GROUNDS:
            for keeper in sample_keepers(ground):
                signs = self.assert_signs(keeper)
                # Only keepers of hand 1 have contrary tables.
                self.assertEqual((-1) ** signs.count(-1), keeper.hand())

    def test_all_contrary(self):
        for ground in GROUNDS:
            for form in sample_forms(ground):
                keeper = Keeper(form, contrary_ones(ground, len(form)))
                self.assertEqual(self.assert_signs(keeper), (-1,) * len(form))

    def test_nothing_moved(self):
        for ground in GROUNDS:
            for form in sample_forms(ground):
                self.assert_signs(same(form))

    def test_mirrors_of_the_frame(self):
        for ground in GROUNDS:
            for form in sample_forms(ground):
                frame = form.frame()
                for at, row in enumerate(frame):
                    self.assert_signs(mirror(form, row))
                    self.assert_signs(made_of(form, list(frame[at:])))

    def test_all_keepers_of_small_wheels(self):
        for form in (squares(3, 1), squares(3, 2), planes(3, 2), squares(5, 2), squares(3, 3), planes(5, 3)):
            for keeper, count in AllKeepers(form).keepers():
                rows = [row for row, sign in zip(form.frame(), signs_for(keeper=keeper)) if sign == -1]
                self.assertIs(sends_to_contrary(keeper.then(made_of(form, rows))), False)

    def test_only_rows_of_worth_nought(self):
        for ground in GROUNDS:
            for keeper in sliding_keepers(ground):
                self.assert_signs(keeper)


if __name__ == "__main__":
    unittest.main()
