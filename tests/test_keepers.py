"""Keepers: what they are made of, when they are the same, how they are written, and what they do."""

import unittest
from itertools import product as ways
from random import Random

from fewmirrors.errors import MirrorError, NoForm, NoKeeper, NoRow, NotKept, NoTable
from fewmirrors.forms import Form
from fewmirrors.keepers import Keeper, mirror, same
from tests.helper import (
    GROUNDS, WHEELS, AllKeepers, all_rows, any_things, are_least, contrary_ones, expected, most_letters, no_rows,
    no_tables, objects, ones, plain_determinant, plain_made, plain_pair, plain_product, planes, rank, row_gap,
    sample_forms, sample_keepers, sliding_keepers, some_mirrors, some_table, span, spans_row, squares, wholes,
    with_number,
)


def first_changed(form, table):
    """The first letters whose product a table changes, told by sums; None where there are none."""
    for one in range(len(table)):
        for other in range(one, len(table)):
            if plain_pair(form, table[one], table[other]) != form.table[one][other]:
                return (one, other)
    return None


class Making(unittest.TestCase):
    def test_fields(self):
        for ground in GROUNDS:
            for form in sample_forms(ground):
                table = ones(len(form))
                keeper = Keeper(form, table)
                self.assertEqual((keeper.form, keeper.table), (form, table))
                self.assertIs(type(keeper.form), Form)
                self.assertEqual(Keeper(form, contrary_ones(ground, len(form))).table, contrary_ones(ground, len(form)))

    def test_mirrors_tables(self):
        random = Random(120)
        for ground in GROUNDS:
            for form in sample_forms(ground):
                for many in (1, 2, 3, 5):
                    table = plain_made(form, some_mirrors(random, form, many))
                    keeper = Keeper(table=table, form=form)
                    self.assertEqual((keeper.form, keeper.table), (form, table))

    def test_all_tables_of_small_wheels(self):
        for wheel, many in ((3, 1), (7, 1), (3, 2), (5, 2)):
            for form in (squares(wheel, many), planes(wheel, many)):
                kept = set(AllKeepers(form).counts)
                for table in ways(all_rows(wheel, many), repeat=many):
                    figures = tuple(tuple(x[0] for x in row) for row in table)
                    self.assert_kept_or_told(form, table)
                    self.assertEqual(first_changed(form, table) is None, figures in kept)

    def assert_kept_or_told(self, form, table):
        changed = first_changed(form, table)
        if changed is None:
            self.assertEqual(Keeper(form, table).table, table)
            return
        with self.assertRaises(NotKept) as caught:
            Keeper(form, table)
        self.assertEqual((caught.exception.one, caught.exception.other), changed)
        self.assertIs(type(caught.exception.one), int)

    def test_one_number_otherwise(self):
        random = Random(121)
        for ground in GROUNDS:
            for form in sample_forms(ground):
                table = plain_made(form, some_mirrors(random, form, 2))
                for one in range(len(form)):
                    for other in range(len(form)):
                        x = table[one][other]
                        more = expected(ground, x[0] + x[1]) if x[1] == 1 else (x[0] + x[1], x[1])
                        self.assert_kept_or_told(form, with_number(table, one, other, more))

    def test_any_tables(self):
        random = Random(122)
        for ground in GROUNDS:
            for form in sample_forms(ground):
                for step in range(4):
                    self.assert_kept_or_told(form, some_table(random, ground, len(form), len(form)))

    def test_first_letters(self):
        for ground in GROUNDS:
            for many in range(1, most_letters(ground) + 1):
                form = squares(ground, many)
                for one in range(many):
                    told = self.told_letters(form, with_number(ones(many), one, one, (0, 1)))
                    self.assertEqual(told, (one, one))
        self.assertEqual(self.told_letters(planes(0, 4), wholes(
            0, (1, 0, 0, 0), (0, 1, 0, 0), (0, 1, 1, 0), (0, 0, 0, 2),
        )), (0, 2))
        self.assertEqual(self.told_letters(planes(5, 4), wholes(
            5, (1, 0, 0, 0), (0, 1, 0, 0), (0, 0, 1, 0), (0, 0, 0, 2),
        )), (2, 3))

    def told_letters(self, form, table):
        with self.assertRaises(NotKept) as caught:
            Keeper(form, table)
        return (caught.exception.one, caught.exception.other)

    def test_noughts(self):
        for ground in GROUNDS:
            self.assertEqual(self.told_letters(planes(ground, 4), (((0, 1),) * 4,) * 4), (0, 1))

    def test_no_forms_ahead(self):
        for thing in any_things() + objects() + [0, 1, ones(2)]:
            if not isinstance(thing, Form):
                for table in (ones(2), None, (), wholes(0, (2, 0), (0, 1))):
                    self.assertRaises(NoForm, Keeper, thing, table)

    def test_no_tables_ahead_of_not_kept(self):
        for ground in GROUNDS:
            for many in range(1, most_letters(ground) + 1):
                form = squares(ground, many)
                for thing in no_tables(many):
                    self.assertRaises(NoTable, Keeper, form, thing)
                self.assertRaises(NoTable, Keeper, form, with_number(ones(many), 0, 0, (2, 2)))
                beyond = (ground, 1) if ground else (1, 0)
                self.assertRaises(NoTable, Keeper, form, with_number(ones(many), 0, 0, beyond))

    def test_refusals_are_of_their_own(self):
        for wrong, form, table in (
            (NoForm, None, None), (NoTable, squares(0, 2), None), (NotKept, squares(0, 2), wholes(0, (2, 0), (0, 1))),
        ):
            with self.assertRaises(MirrorError) as caught:
                Keeper(form, table)
            self.assertIs(type(caught.exception), wrong)


class Sameness(unittest.TestCase):
    def test_same_where_form_and_table_are(self):
        for ground in GROUNDS:
            keepers = sample_keepers(ground)[::3]
            for keeper in keepers:
                again = Keeper(Form(keeper.form.table, ground), tuple(list(keeper.table)))
                self.assertIs(keeper == again, True)
                self.assertIs(keeper != again, False)

    def test_others(self):
        for ground in GROUNDS:
            one = same(squares(ground, 2))
            for other in (
                Keeper(squares(ground, 2), contrary_ones(ground, 2)), same(planes(ground, 2)),
                same(squares(ground, 3)), same(squares(3 if ground != 3 else 0, 2)),
            ):
                self.assertIs(one == other, False)
                self.assertIs(one != other, True)

    def test_nothing_else_is_the_same(self):
        keeper = same(squares(0, 2))
        for thing in any_things() + [keeper.form, ones(2), (keeper.form, ones(2)), [keeper], str(keeper), 0, 2]:
            self.assertIs(keeper == thing, False)
            self.assertIs(thing == keeper, False)
            self.assertIs(keeper != thing, True)
            self.assertIs(thing != keeper, True)

    def test_in_a_list(self):
        form = squares(5, 2)
        keepers = [same(form), mirror(form, wholes(5, (1, 0))[0])]
        self.assertEqual(keepers.index(mirror(form, wholes(5, (3, 0))[0])), 1)
        self.assertNotIn(Keeper(form, contrary_ones(5, 2)), keepers)

    def test_length_and_truth(self):
        for ground in GROUNDS:
            for form in sample_forms(ground):
                many = len(form)
                self.assertEqual(len(same(form)), 0)
                self.assertIs(bool(same(form)), False)
                self.assertEqual(len(Keeper(form, contrary_ones(ground, many))), many)
                self.assertIs(bool(Keeper(form, contrary_ones(ground, many))), True)
            for keeper in sliding_keepers(ground):
                self.assertEqual(len(keeper), 4)

    def test_length_on_small_wheels(self):
        for form in (squares(3, 2), planes(3, 2), squares(5, 2), planes(7, 2), squares(3, 3), planes(3, 4)):
            for keeper, count in AllKeepers(form).keepers():
                self.assertEqual(len(keeper), count)
                self.assertIs(bool(keeper), count > 0)


class Texts(unittest.TestCase):
    def test_of_fractions(self):
        keeper = Keeper(squares(0, 2), wholes(0, ("3/5", "-4/5"), ("4/5", "3/5")))
        self.assertEqual(str(keeper), "3/5 -4/5 / 4/5 3/5 on 1 0 / 0 1")
        self.assertEqual(repr(keeper), "Keeper(3/5 -4/5 / 4/5 3/5 on 1 0 / 0 1)")
        self.assertEqual(f"{same(squares(0, 1))}", "1 on 1")

    def test_of_wheels(self):
        for wheel in WHEELS:
            keeper = Keeper(planes(wheel, 2), contrary_ones(wheel, 2))
            text = f"{wheel - 1} 0 / 0 {wheel - 1} on 0 1 / 1 0 by {wheel}"
            self.assertEqual(str(keeper), text)
            self.assertEqual(repr([keeper]), f"[Keeper({text})]")


class Doing(unittest.TestCase):
    def test_of(self):
        random = Random(123)
        for ground in GROUNDS:
            for keeper in sample_keepers(ground)[::2]:
                for letter, row in zip(ones(len(keeper.form)), keeper.table):
                    self.assertEqual(keeper.of(letter), row)
                one, other = some_table(random, ground, 2, len(keeper.form))
                self.assertEqual(keeper.of(one), plain_product(ground, (one,), keeper.table)[0])
                told = plain_pair(keeper.form, keeper.of(row=one), keeper.of(other))
                self.assertEqual(told, plain_pair(keeper.form, one, other))

    def test_of_what_is_no_row(self):
        for ground in GROUNDS:
            for many in range(1, most_letters(ground) + 1):
                keeper = same(squares(ground, many))
                for thing in no_rows(keeper.form):
                    self.assertRaises(NoRow, keeper.of, thing)

    def test_then_and_back(self):
        random = Random(124)
        for ground in GROUNDS:
            for form in sample_forms(ground):
                rows = some_mirrors(random, form, 4)
                one, other = Keeper(form, plain_made(form, rows[:2])), Keeper(form, plain_made(form, rows[1:]))
                tables = one.table, other.table
                told = one.then(other)
                self.assertEqual(told.table, plain_product(ground, one.table, other.table))
                self.assertEqual(told, Keeper(form, plain_made(form, rows[:2] + rows[1:])))
                self.assertEqual(other.then(other=one).table, plain_product(ground, other.table, one.table))
                for keeper in (one, other, told):
                    self.assertEqual(plain_product(ground, keeper.back().table, keeper.table), ones(len(form)))
                    self.assertEqual(keeper.back().back(), keeper)
                    self.assertEqual(keeper.then(keeper.back()), same(form))
                self.assertEqual(one.back(), Keeper(form, plain_made(form, rows[1::-1])))
                self.assertEqual((one.table, other.table), tables)
                self.assertEqual(told.form, form)

    def test_then_on_itself(self):
        for ground in GROUNDS:
            for keeper in sample_keepers(ground)[::5]:
                self.assertEqual(keeper.then(keeper).table, plain_product(ground, keeper.table, keeper.table))

    def test_then_of_what_is_no_keeper(self):
        keeper = same(squares(0, 2))
        for thing in any_things() + objects() + [0, 1, ones(2)]:
            if not isinstance(thing, Keeper):
                self.assertRaises(NoKeeper, keeper.then, thing)

    def test_then_of_another_form(self):
        for ground in GROUNDS:
            keeper = same(squares(ground, 2))
            twice = Form(wholes(ground, (2, 0), (0, 2)), ground)
            others = [same(squares(ground, many)) for many in (1, 3)] + [same(twice), same(planes(ground, 2))]
            others += [same(squares(other, 2)) for other in GROUNDS if other != ground]
            for other in others:
                self.assertRaises(NoForm, keeper.then, other)
                self.assertRaises(NoForm, other.then, keeper)

    def test_hand(self):
        random = Random(125)
        for ground in GROUNDS:
            for form in sample_forms(ground):
                self.assertEqual(same(form).hand(), 1)
                for many in range(1, 5):
                    keeper = Keeper(form, plain_made(form, some_mirrors(random, form, many)))
                    self.assertEqual(keeper.hand(), (-1) ** many)
                    self.assertIs(type(keeper.hand()), int)
                    self.assertEqual(expected(ground, keeper.hand()), plain_determinant(ground, keeper.table))
            for keeper in sliding_keepers(ground):
                self.assertEqual(keeper.hand(), 1)


class Spaces(unittest.TestCase):
    def assert_spaces(self, keeper):
        form, ground = keeper.form, keeper.form.ground
        moved, still = keeper.moved(), keeper.still()
        self.assertIs(type(moved), tuple)
        self.assertIs(type(still), tuple)
        self.assertTrue(are_least(moved) and are_least(still))
        self.assertEqual(len(moved) + len(still), len(form.table))
        gaps = tuple(row_gap(ground, letter, keeper.of(letter)) for letter in ones(len(form.table)))
        self.assertEqual(len(moved), rank(ground, gaps))
        self.assertTrue(all(spans_row(ground, moved, gap) for gap in gaps))
        for row in still:
            self.assertEqual(plain_product(ground, (row,), keeper.table)[0], row)
            for other in moved:
                self.assertEqual(plain_pair(form, row, other), (0, 1))
        self.assertEqual(form.upright(moved), still)
        self.assertEqual(form.upright(still), moved)

    def test_samples(self):
        for ground in GROUNDS:
            for keeper in sample_keepers(ground):
                self.assert_spaces(keeper)

    def test_nothing_moved_and_all_moved(self):
        for ground in GROUNDS:
            for form in sample_forms(ground):
                many = len(form)
                self.assertEqual((same(form).moved(), same(form).still()), ((), ones(many)))
                contrary = Keeper(form, contrary_ones(ground, many))
                self.assertEqual((contrary.moved(), contrary.still()), (ones(many), ()))

    def test_mirrors(self):
        form = squares(0, 3)
        keeper = mirror(form, wholes(0, (2, 0, -4))[0])
        self.assertEqual(keeper.moved(), wholes(0, (1, 0, -2)))
        self.assertEqual(keeper.still(), wholes(0, (1, 0, "1/2"), (0, 1, 0)))
        form = squares(7, 2)
        self.assertEqual(mirror(form, wholes(7, (3, 1))[0]).moved(), wholes(7, (1, 5)))

    def test_only_rows_of_worth_nought(self):
        for ground in GROUNDS:
            for keeper in sliding_keepers(ground):
                moved = keeper.moved()
                self.assertEqual(len(moved), 2)
                for one in moved:
                    for other in moved:
                        self.assertEqual(plain_pair(keeper.form, one, other), (0, 1))
                if len(keeper.form) == 4:
                    self.assertEqual(keeper.still(), moved)

    def test_all_rows_of_small_wheels(self):
        for form in (squares(3, 3), planes(3, 3), squares(5, 2), planes(3, 4)):
            wheel, many = form.ground, len(form)
            rows = all_rows(wheel, many)
            for keeper, count in AllKeepers(form).keepers()[::17 if many == 4 else 1]:
                led = {row: keeper.of(row) for row in rows}
                self.assertEqual(span(wheel, keeper.still(), many), {row for row in rows if led[row] == row})
                gaps = {row_gap(wheel, row, led[row]) for row in rows}
                self.assertEqual(span(wheel, keeper.moved(), many), gaps)


if __name__ == "__main__":
    unittest.main()
