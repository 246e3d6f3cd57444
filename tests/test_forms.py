"""Forms: what they are made of, when they are the same, how they are written, and what they tell of rows."""

import unittest
from itertools import product as ways
from random import Random

from fewmirrors.errors import MirrorError, NoForm, NoGround, NoRow
from fewmirrors.forms import Form
from fewmirrors.keepers import Keeper
from fewmirrors.tables import determinant
from tests.helper import (
    GROUNDS, WHEELS, all_rows, any_things, are_least, most_letters, no_rows, no_tables, objects, ones, plain_pair,
    planes, rank, row_sum, sample_forms, some_table, span, spans_row, squares, wholes, wide_numbers, with_number,
)

NO_GROUNDS = [1, 2, 4, 6, 9, 15, 17, -3, -1, 10 ** 200, (0, 1)]


class Making(unittest.TestCase):
    def test_fields(self):
        for ground in GROUNDS:
            for many in range(1, most_letters(ground) + 1):
                form = Form(ones(many), ground)
                self.assertEqual((form.table, form.ground), (ones(many), ground))

    def test_ground_left_out(self):
        form = Form(wholes(0, (1, "1/2"), ("1/2", -3)))
        self.assertEqual(form.ground, 0)
        self.assertEqual(form.table, (((1, 1), (1, 2)), ((1, 2), (-3, 1))))

    def test_by_names_in_any_order(self):
        table = wholes(5, (1, 2), (2, 0))
        for form in (Form(table=table, ground=5), Form(ground=5, table=table), Form(table, ground=5)):
            self.assertEqual((form.table, form.ground), (table, 5))
        self.assertEqual(Form(table=ones(1)).ground, 0)

    def test_all_tables_of_small_wheels(self):
        for wheel, many in ((3, 1), (5, 1), (13, 1), (3, 2), (5, 2)):
            for table in ways(all_rows(wheel, many), repeat=many):
                turned = all(table[at][to] == table[to][at] for at in range(many) for to in range(many))
                if turned and determinant(wheel, table) != (0, 1):
                    self.assertEqual(Form(table, wheel).table, table)
                else:
                    self.assertRaises(NoForm, Form, table, wheel)

    def test_flat_tables(self):
        for ground in GROUNDS:
            for table in (((0,),), ((1, 1), (1, 1)), ((1, 2, 3), (2, 4, 6), (3, 6, 1)), ((0, 0), (0, 1))):
                self.assertRaises(NoForm, Form, wholes(ground, *table), ground)
        self.assertRaises(NoForm, Form, wholes(7, (2, 1), (1, 4)), 7)
        self.assertEqual(len(Form(wholes(11, (2, 1), (1, 4)), 11)), 2)

    def test_tables_that_turned_are_others(self):
        for ground in GROUNDS:
            for many in range(2, most_letters(ground) + 1):
                for one in range(many):
                    for other in range(many):
                        if one != other:
                            self.assertRaises(NoForm, Form, with_number(ones(many), one, other, (2, 1)), ground)

    def test_counts_of_letters(self):
        for ground in GROUNDS:
            most = most_letters(ground)
            self.assertEqual(len(Form(ones(most), ground)), most)
            for many in (most + 1, most + 2, 10):
                self.assertRaises(NoForm, Form, ones(many), ground)
            self.assertRaises(NoForm, Form, (), ground)
        for wheel in WHEELS:
            self.assertRaises(NoForm, Form, ones(5), wheel)

    def test_what_is_no_table(self):
        for ground in GROUNDS:
            for many in range(1, 5):
                for thing in no_tables(many):
                    # Among them stand tables of ones, of another count of letters: these are forms. They
                    # are told by their texts, since Python takes True for a 1.
                    if repr(thing) not in [repr(ones(count)) for count in range(1, most_letters(ground) + 1)]:
                        self.assertRaises(NoForm, Form, thing, ground)

    def test_numbers_of_another_ground(self):
        for wheel in WHEELS:
            for number in ((wheel, 1), (-1, 1), (1, 2)):
                self.assertRaises(NoForm, Form, ((number,),), wheel)
        self.assertRaises(NoForm, Form, wholes(0, (1, 0), (0, "1/2")), 5)
        self.assertRaises(NoForm, Form, (((2, 4),),), 0)

    def test_no_grounds_ahead_of_no_forms(self):
        for ground in NO_GROUNDS + any_things() + objects():
            for table in [ones(1), ones(2), (), None, [], "1", ((True, 1),), ones(6)]:
                self.assertRaises(NoGround, Form, table, ground)

    def test_refusals_are_mirror_errors_of_their_own(self):
        with self.assertRaises(MirrorError) as caught:
            Form(ones(2), True)
        self.assertIs(type(caught.exception), NoGround)
        with self.assertRaises(MirrorError) as caught:
            Form(())
        self.assertIs(type(caught.exception), NoForm)

    def test_numbers_of_many_figures(self):
        numbers = wide_numbers(71, 10, 200)
        for many in range(1, 5):
            table = tuple(tuple(numbers[min(at, to) + max(at, to) * (max(at, to) + 1) // 2] for to in range(many))
                          for at in range(many))
            self.assertEqual(Form(table).table, table)
        flat = ((numbers[0], numbers[0]), (numbers[0], numbers[0]))
        self.assertRaises(NoForm, Form, flat)


class Sameness(unittest.TestCase):
    def test_same_where_ground_and_table_are(self):
        for ground in GROUNDS:
            forms, again = sample_forms(ground), sample_forms(ground)
            for form, other in zip(forms, again):
                self.assertIs(form == other, True)
                self.assertIs(form != other, False)

    def test_others_where_a_number_is(self):
        for ground in GROUNDS:
            for many in range(1, most_letters(ground) + 1):
                other = with_number(ones(many), many - 1, many - 1, (2, 1))
                self.assertIs(Form(ones(many), ground) == Form(other, ground), False)
                self.assertIs(Form(ones(many), ground) != Form(other, ground), True)

    def test_others_where_the_ground_is(self):
        for ground in GROUNDS:
            for other in GROUNDS:
                for many in range(1, 5):
                    self.assertIs(Form(ones(many), ground) == Form(ones(many), other), ground == other)
                    self.assertIs(Form(ones(many), ground) != Form(ones(many), other), ground != other)

    def test_others_where_the_letters_are_more(self):
        self.assertNotEqual(squares(0, 2), squares(0, 3))

    def test_nothing_else_is_the_same(self):
        form = squares(0, 2)
        keeper = Keeper(form, ones(2))
        others = any_things() + [form.table, (form.table, 0), [form], (form,), keeper, str(form), repr(form), 2, 0]
        for thing in others:
            self.assertIs(form == thing, False)
            self.assertIs(thing == form, False)
            self.assertIs(form != thing, True)
            self.assertIs(thing != form, True)

    def test_in_a_list(self):
        forms = [squares(0, 2), squares(5, 2), planes(0, 2)]
        self.assertIn(squares(5, 2), forms)
        self.assertNotIn(squares(7, 2), forms)
        self.assertEqual(forms.index(planes(0, 2)), 2)
        self.assertEqual(forms.count(squares(0, 2)), 1)
        self.assertEqual(forms, [squares(0, 2), squares(5, 2), planes(0, 2)])

    def test_length_and_truth(self):
        for ground in GROUNDS:
            for many in range(1, most_letters(ground) + 1):
                self.assertEqual(len(squares(ground, many)), many)
                self.assertIs(bool(planes(ground, many)), True)


class Texts(unittest.TestCase):
    def test_of_fractions(self):
        form = Form(wholes(0, (3, "1/2"), ("1/2", -2)))
        self.assertEqual(str(form), "3 1/2 / 1/2 -2")
        self.assertEqual(repr(form), "Form(3 1/2 / 1/2 -2)")
        self.assertEqual(str(squares(0, 1)), "1")
        self.assertEqual(f"{squares(0, 1)}", "1")
        self.assertEqual(str(Form(wholes(0, ("-7/3",)))), "-7/3")
        self.assertEqual(str(squares(0, 3)), "1 0 0 / 0 1 0 / 0 0 1")

    def test_of_wheels(self):
        for wheel in WHEELS:
            form = Form(wholes(wheel, (0, -1), (-1, 2)), wheel)
            self.assertEqual(str(form), f"0 {wheel - 1} / {wheel - 1} 2 by {wheel}")
            self.assertEqual(repr(form), f"Form(0 {wheel - 1} / {wheel - 1} 2 by {wheel})")
        self.assertEqual(repr([squares(5, 1)]), "[Form(1 by 5)]")

    def test_of_many_figures(self):
        top, bottom = wide_numbers(72, 1, 600)[0]
        self.assertEqual(str(Form((((top, bottom),),))), f"{top}/{bottom}")


class Products(unittest.TestCase):
    def test_known_ones(self):
        form = Form(wholes(0, (2, 1), (1, -3)))
        one, other = wholes(0, (1, 2), ("1/2", -1))
        self.assertEqual(form.pair(one, other), (7, 1))
        self.assertEqual(form.worth(one), (-6, 1))
        self.assertEqual(form.worth(other), (-7, 2))
        self.assertEqual(Form(wholes(7, (2, 1), (1, 3)), 7).pair(*wholes(7, (1, 2), (3, 6))), (5, 1))

    def test_against_sums(self):
        random = Random(73)
        for ground in GROUNDS:
            for form in sample_forms(ground):
                for step in range(6):
                    one, other = some_table(random, ground, 2, len(form))
                    self.assertEqual(form.pair(one, other), plain_pair(form, one, other))
                    self.assertEqual(form.pair(other, one), plain_pair(form, one, other))
                    self.assertEqual(form.worth(one), plain_pair(form, one, one))
                    self.assertEqual(form.worth(other), form.pair(other, other))

    def test_letters_tell_the_table(self):
        for ground in GROUNDS:
            for form in sample_forms(ground):
                letters = ones(len(form))
                told = tuple(tuple(form.pair(one, other) for other in letters) for one in letters)
                self.assertEqual(told, form.table)

    def test_many_figures(self):
        numbers = wide_numbers(74, 9, 200)
        form = Form(((numbers[0], numbers[1]), (numbers[1], numbers[2])))
        one, other = (numbers[3], numbers[4]), (numbers[5], numbers[6])
        self.assertEqual(form.pair(one, other), plain_pair(form, one, other))
        self.assertEqual(form.worth(one), plain_pair(form, one, one))

    def test_by_names(self):
        form = squares(0, 2)
        one, other = wholes(0, (1, 2), (3, 4))
        self.assertEqual(form.worth(row=one), (5, 1))
        self.assertEqual(form.pair(other=other, row=one), (11, 1))

    def test_what_is_no_row(self):
        for ground in GROUNDS:
            for many in range(1, most_letters(ground) + 1):
                form = squares(ground, many)
                right = ones(many)[0]
                for thing in no_rows(form):
                    self.assertRaises(NoRow, form.worth, thing)
                    self.assertRaises(NoRow, form.pair, thing, right)
                    self.assertRaises(NoRow, form.pair, right, thing)
                    self.assertRaises(NoRow, form.pair, thing, thing)


class Upright(unittest.TestCase):
    def test_known_ones(self):
        form = squares(0, 3)
        self.assertEqual(form.upright(()), ones(3))
        self.assertEqual(form.upright(wholes(0, (1, 1, 1))), wholes(0, (1, 0, -1), (0, 1, -1)))
        self.assertEqual(form.upright(wholes(0, (1, 1, 1), (1, 0, 0))), wholes(0, (0, 1, -1)))
        self.assertEqual(form.upright(ones(3)), ())
        self.assertEqual(planes(0, 2).upright(wholes(0, (1, 0))), wholes(0, (1, 0)))
        self.assertEqual(squares(5, 2).upright(wholes(5, (1, 2))), wholes(5, (1, 2)))

    def test_no_rows_and_noughts(self):
        for ground in GROUNDS:
            for form in sample_forms(ground):
                many = len(form)
                self.assertEqual(form.upright(()), ones(many))
                self.assertEqual(form.upright((((0, 1),) * many,)), ones(many))
                self.assertEqual(form.upright((((0, 1),) * many,) * 10), ones(many))
                self.assertEqual(form.upright(ones(many)), ())

    def test_least_rows_of_all_that_is_upright(self):
        random = Random(75)
        for ground in GROUNDS:
            for form in sample_forms(ground):
                for high in (1, 2, 3, 10):
                    rows = some_table(random, ground, high, len(form))
                    told = form.upright(rows)
                    self.assertIs(type(told), tuple)
                    self.assertIs(are_least(told), True)
                    self.assertEqual(len(told), len(form) - rank(ground, rows))
                    self.assertTrue(all(plain_pair(form, one, other) == (0, 1) for one in told for other in rows))
                    self.assertEqual(form.upright(rows + rows[:1] + (row_sum(ground, rows[0], rows[-1]),)), told)

    def test_all_rows_of_small_wheels(self):
        random = Random(76)
        for wheel, many in ((3, 2), (3, 3), (5, 2)):
            for form in (squares(wheel, many), planes(wheel, many)):
                for high in (0, 1, 2):
                    rows = some_table(random, wheel, high, many)
                    upright = {
                        row for row in all_rows(wheel, many)
                        if all(plain_pair(form, row, other) == (0, 1) for other in rows)
                    }
                    self.assertEqual(span(wheel, form.upright(rows), many), upright)

    def test_twice_upright(self):
        random = Random(77)
        for ground in GROUNDS:
            for form in sample_forms(ground):
                rows = some_table(random, ground, 2, len(form))
                told = form.upright(form.upright(rows))
                self.assertTrue(all(spans_row(ground, told, row) for row in rows))
                self.assertEqual(form.upright(rows=told), form.upright(rows))

    def test_what_is_no_tuple_of_rows(self):
        for ground in GROUNDS:
            for many in range(1, most_letters(ground) + 1):
                form = squares(ground, many)
                right = ones(many)[0]
                for thing in no_rows(form):
                    self.assertRaises(NoRow, form.upright, (thing,))
                    self.assertRaises(NoRow, form.upright, (right, thing))
                    self.assertRaises(NoRow, form.upright, (thing, right))
                for thing in any_things() + objects() + [right, [right], list(ones(many)), [], 0, (1, 1)]:
                    if thing != () and thing != (right,):
                        self.assertRaises(NoRow, form.upright, thing)


class Frames(unittest.TestCase):
    def assert_frame(self, form):
        told = form.frame()
        self.assertIs(type(told), tuple)
        self.assertEqual(len(told), len(form.table))
        for at, row in enumerate(told):
            self.assertEqual(len(row), len(form.table))
            self.assertNotEqual(plain_pair(form, row, row), (0, 1))
            for other in told[:at]:
                self.assertEqual(plain_pair(form, row, other), (0, 1))
        self.assertEqual(form.frame(), told)
        self.assertEqual(Form(form.table, form.ground).frame(), told)

    def test_sample_forms(self):
        for ground in GROUNDS:
            for form in sample_forms(ground):
                self.assert_frame(form)

    def test_letters_all_of_worth_nought(self):
        for ground in GROUNDS:
            for many in range(2, most_letters(ground) + 1):
                table = tuple(tuple((int(at != to), 1) for to in range(many)) for at in range(many))
                if determinant(ground, table) != (0, 1):
                    self.assert_frame(Form(table, ground))
            self.assert_frame(planes(ground, 2))
            self.assert_frame(planes(ground, 4))

    def test_all_forms_of_small_wheels(self):
        for wheel, many in ((3, 1), (3, 2), (5, 2), (3, 3)):
            places = [(at, to) for at in range(many) for to in range(at, many)]
            for numbers in ways(range(wheel), repeat=len(places)):
                table = ones(many)
                for (at, to), x in zip(places, numbers):
                    table = with_number(with_number(table, at, to, (x, 1)), to, at, (x, 1))
                if determinant(wheel, table) != (0, 1):
                    self.assert_frame(Form(table, wheel))

    def test_many_figures(self):
        random = Random(78)
        for many in range(1, 6):
            table = [[random.randint(10 ** 199, 10 ** 200) for to in range(many)] for at in range(many)]
            table = [[table[min(at, to)][max(at, to)] for to in range(many)] for at in range(many)]
            self.assert_frame(Form(wholes(0, *table)))


if __name__ == "__main__":
    unittest.main()
