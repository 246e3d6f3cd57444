"""Seat products: those of a keeper, and the keeper of any rows and seats."""

import unittest
from itertools import combinations, product as ways
from random import Random

from fewmirrors.errors import NoRow, NoSeat
from fewmirrors.keepers import Keeper, made_of, same
from fewmirrors.seats import keeper_of, seats_of
from fewmirrors.tables import determinant, is_table, product, turned
from tests.helper import (
    GROUNDS, AllKeepers, all_rows, any_things, are_least, as_fraction, expected, most_letters, multiple, no_rows,
    objects, ones, plain_determinant, plain_pair, planes, rank, refusal, row_gap, row_sum, sample_forms,
    sample_keepers, sliding, sliding_keepers, some_base, some_number, some_table, span, squares, wholes,
    wide_numbers, with_number,
)


def factors_by(ground, rows, row):
    """The numbers by which least rows come together to a row that they span."""
    heads = [next(at for at, x in enumerate(least) if x[0]) for least in rows]
    return [row[head] for head in heads]


def seat_between(ground, seats, one, other):
    """The seat product of two rows, told by their numbers of the rows of the table."""
    return expected(ground, sum(
        as_fraction(x) * as_fraction(seats[at][to]) * as_fraction(y)
        for at, x in enumerate(one) for to, y in enumerate(other)
    ))


def twice_products(form, rows):
    return tuple(
        tuple(expected(form.ground, 2 * as_fraction(plain_pair(form, one, other))) for other in rows) for one in rows
    )


def some_seats(random, form, rows):
    """A table that together with itself turned comes to twice the products, and has a determinant; or None."""
    many = len(rows)
    for step in range(20):
        table = [[plain_pair(form, one, other) for other in rows] for one in rows]
        for at in range(many):
            for to in range(at):
                x = as_fraction(some_number(random, form.ground))
                table[at][to] = expected(form.ground, as_fraction(table[at][to]) + x)
                table[to][at] = expected(form.ground, as_fraction(table[to][at]) - x)
        table = tuple(map(tuple, table))
        if plain_determinant(form.ground, table) != (0, 1):
            return table
    return None


class Seats(unittest.TestCase):
    def assert_seats(self, keeper):
        form, ground = keeper.form, keeper.form.ground
        told = seats_of(keeper)
        self.assertIs(type(told), tuple)
        rows, seats = told
        self.assertEqual(rows, keeper.moved())
        if not rows:
            self.assertEqual(told, ((), ()))
            return
        many = len(rows)
        self.assertIs(is_table(ground, seats, many, many), True)
        for letter in ones(len(form.table)):
            one = factors_by(ground, rows, row_gap(ground, letter, keeper.of(letter)))
            for at, row in enumerate(rows):
                expect = expected(ground, 2 * as_fraction(plain_pair(form, letter, row)))
                self.assertEqual(seat_between(ground, seats, one, ones(many)[at]), expect)
        self.assertNotEqual(plain_determinant(ground, seats), (0, 1))
        both = tuple(row_sum(ground, *pair) for pair in zip(seats, turned(seats)))
        self.assertEqual(both, twice_products(form, rows))
        for at, row in enumerate(rows):
            self.assertEqual(seats[at][at], plain_pair(form, row, row))

    def test_samples(self):
        for ground in GROUNDS:
            for keeper in sample_keepers(ground):
                self.assert_seats(keeper)

    def test_all_keepers_of_small_wheels(self):
        for form in (squares(3, 2), planes(5, 2), squares(3, 3)):
            for keeper, count in AllKeepers(form).keepers():
                self.assert_seats(keeper)

    def test_known_ones(self):
        self.assertEqual(seats_of(keeper=same(squares(0, 3))), ((), ()))
        keeper = made_of(squares(0, 2), [wholes(0, (1, 2))[0]])
        self.assertEqual(seats_of(keeper), (wholes(0, (1, 2)), wholes(0, (5,))))
        keeper = made_of(squares(0, 2), list(wholes(0, (1, 0), (1, 1))))
        # By the mirrors' rows the table is 1 2 / 0 2, their products being 1, 1, 2.
        self.assertEqual(seats_of(keeper), (ones(2), wholes(0, (1, 1), (-1, 1))))
        keeper = Keeper(planes(7, 2), wholes(7, (-1, 0), (0, -1)))
        self.assertEqual(seats_of(keeper), (ones(2), wholes(7, (0, 1), (1, 0))))

    def test_only_rows_of_worth_nought(self):
        for ground in GROUNDS:
            rows, seats = seats_of(sliding(ground, 4, 1))
            self.assertEqual(rows, wholes(ground, (1, 0, 0, 0), (0, 0, 1, 0)))
            self.assertEqual(seats, wholes(ground, (0, 2), (-2, 0)))
            for keeper in sliding_keepers(ground):
                seats = seats_of(keeper)[1]
                self.assertEqual((seats[0][0], seats[1][1]), ((0, 1), (0, 1)))
                self.assertEqual(row_sum(ground, seats[0], turned(seats)[0]), ((0, 1), (0, 1)))

    def test_many_figures(self):
        one, other = wide_numbers(150, 2, 150)
        self.assert_seats(made_of(squares(0, 2), [(one, other)]))
        self.assert_seats(made_of(squares(0, 2), [(one, other), ((1, 1), one)]))


class KeeperOf(unittest.TestCase):
    def test_there_and_back(self):
        for ground in GROUNDS:
            for keeper in sample_keepers(ground):
                rows, seats = seats_of(keeper)
                self.assertEqual(keeper_of(keeper.form, rows, seats), keeper)
                self.assertEqual(keeper_of(seats=seats, rows=rows, form=keeper.form), keeper)

    def test_by_other_rows_of_the_same_space(self):
        random = Random(151)
        for ground in GROUNDS:
            for keeper in sample_keepers(ground)[::2]:
                rows, seats = seats_of(keeper)
                if rows:
                    base = some_base(random, ground, len(rows))
                    others = product(ground, base, rows)
                    table = product(ground, product(ground, base, seats), turned(base))
                    self.assertEqual(keeper_of(keeper.form, others, table), keeper)

    def test_any_rows_and_seats(self):
        random = Random(152)
        found = 0
        for ground in GROUNDS:
            for form in sample_forms(ground):
                for many in range(1, len(form) + 1):
                    rows = some_table(random, ground, many, len(form))
                    if rank(ground, rows) < many:
                        continue
                    seats = some_seats(random, form, rows)
                    if seats is not None:
                        self.assert_keeper_with(form, rows, seats)
                        found += 1
        self.assertGreater(found, 100)

    def assert_keeper_with(self, form, rows, seats):
        keeper = keeper_of(form, rows, seats)
        self.assertIs(type(keeper), Keeper)
        self.assertEqual(keeper.form, form)
        told, table = seats_of(keeper)
        self.assertEqual(len(told), len(rows))
        by = [factors_by(form.ground, told, row) for row in rows]
        self.assertEqual(product(form.ground, by, told), rows)
        for at, one in enumerate(by):
            for to, other in enumerate(by):
                self.assertEqual(seat_between(form.ground, table, one, other), seats[at][to])

    def test_no_rows(self):
        for ground in GROUNDS:
            for form in sample_forms(ground):
                self.assertEqual(keeper_of(form, (), ()), same(form))
                for seats in any_things() + objects() + [((),), ((0, 1),), wholes(ground, (1,))]:
                    if seats != ():
                        self.assertIs(refusal(keeper_of, form, (), seats), NoSeat)

    def test_mirrors(self):
        for ground in GROUNDS:
            for form in sample_forms(ground):
                for row in form.frame():
                    worth = form.worth(row)
                    self.assertEqual(keeper_of(form, (row,), ((worth,),)), made_of(form, [row]))
                    wrong = expected(ground, 2 * as_fraction(worth))
                    self.assertIs(refusal(keeper_of, form, (row,), ((wrong,),)), NoSeat)

    def test_all_spaces_of_small_wheels_are_one_another_s(self):
        for form in (squares(3, 1), squares(3, 2), planes(3, 2), squares(5, 2), squares(3, 3), planes(3, 3)):
            wheel, many = form.ground, len(form)
            found = []
            for rows in all_least_rows(wheel, many):
                for seats in all_seats(form, rows):
                    if rows == () or determinant(wheel, seats) != (0, 1):
                        keeper = keeper_of(form, rows, seats)
                        self.assertEqual(seats_of(keeper), (rows, seats))
                        found.append(keeper.table)
                    else:
                        self.assertIs(refusal(keeper_of, form, rows, seats), NoSeat)
            self.assertEqual(len(found), len(set(found)))
            self.assertEqual(len(found), len(AllKeepers(form).counts))

    def test_no_tuples_of_rows_ahead(self):
        for ground in GROUNDS:
            for many in range(1, most_letters(ground) + 1):
                form = planes(ground, many)
                right = ones(many)[0]
                for thing in no_rows(form):
                    self.assertIs(refusal(keeper_of, form, (thing,), None), NoRow)
                    self.assertIs(refusal(keeper_of, form, (right, thing), ()), NoRow)
                for thing in any_things() + objects() + [right, [right], [], 0, list(ones(many))]:
                    if thing != () and thing != (right,):
                        self.assertIs(refusal(keeper_of, form, thing, ()), NoRow)
                        self.assertIs(refusal(keeper_of, form, thing, wholes(ground, (1,))), NoRow)

    def test_rows_that_others_span(self):
        for ground in GROUNDS:
            for form in sample_forms(ground):
                row, many = form.frame()[0], len(form)
                nought = ((0, 1),) * many
                twice = multiple(ground, row, (2, 1))
                for rows in ((nought,), (row, nought), (row, row), (row, twice), ones(many) + ones(many)[:1]):
                    size = len(rows)
                    gram = tuple(tuple(plain_pair(form, one, other) for other in rows) for one in rows)
                    contrary = tuple(
                        tuple(expected(ground, (at < to) - (at > to)) for to in range(size)) for at in range(size)
                    )
                    sums = tuple(row_sum(ground, *pair) for pair in zip(gram, contrary))
                    for seats in (gram, contrary, sums, ones(size), ()):
                        self.assertIs(refusal(keeper_of, form, rows, seats), NoSeat)

    def test_a_determinant_nought(self):
        for ground in GROUNDS:
            form = planes(ground, 4)
            rows = (ones(4)[0], ones(4)[2])
            self.assertIs(refusal(keeper_of, form, rows, wholes(ground, (0, 0), (0, 0))), NoSeat)
            self.assertIs(refusal(keeper_of, form, rows[:1], wholes(ground, (0,))), NoSeat)
            self.assertIs(refusal(keeper_of, form, rows, wholes(ground, (0, 1), (-1, 0))), None)
            self.assertIs(refusal(keeper_of, squares(ground, 2), ones(2), wholes(ground, (1, 0), (0, 1))), None)
        self.assertIs(refusal(keeper_of, squares(5, 2), ones(2), wholes(5, (1, 2), (-2, 1))), NoSeat)

    def test_one_number_otherwise(self):
        for ground in GROUNDS:
            for keeper in sample_keepers(ground)[::4]:
                rows, seats = seats_of(keeper)
                for at in range(len(rows)):
                    for to in range(len(rows)):
                        x = expected(ground, as_fraction(seats[at][to]) + 1)
                        wrong = with_number(seats, at, to, x)
                        self.assertIs(refusal(keeper_of, keeper.form, rows, wrong), NoSeat)

    def test_seats_that_are_no_such_tables(self):
        for ground in GROUNDS:
            form = squares(ground, 2)
            for many in (1, 2):
                rows = ones(2)[:many]
                seats = ones(many)
                self.assertIs(refusal(keeper_of, form, rows, seats), None)
                wrong = [seats + seats[:1], seats[1:], list(seats), tuple(map(list, seats)), ones(many + 1)]
                wrong += [(), [seats]]
                wrong += [with_number(seats, 0, 0, x) for x in (True, 1, (True, 1), (1, True), (2, 2), [1, 1], None)]
                for thing in wrong + any_things() + objects() + [0, 1, (1, 1)]:
                    self.assertIs(refusal(keeper_of, form, rows, thing), NoSeat)


def all_least_rows(wheel, many):
    """The least rows of all spaces of rows."""
    lines = [row for row in all_rows(wheel, many) if are_least((row,))]
    return [rows for count in range(many + 1) for rows in combinations(lines[::-1], count) if are_least(rows)]


def all_seats(form, rows):
    """All tables that together with themselves turned come to twice the products."""
    many = len(rows)
    places = [(at, to) for at in range(many) for to in range(at)]
    for numbers in ways(range(form.ground), repeat=len(places)):
        table = tuple(tuple(plain_pair(form, one, other) for other in rows) for one in rows)
        for (at, to), x in zip(places, numbers):
            table = with_number(table, at, to, expected(form.ground, table[at][to][0] + x))
            table = with_number(table, to, at, expected(form.ground, table[to][at][0] - x))
        yield table


class Spaces(unittest.TestCase):
    def test_all_least_rows_are_found(self):
        self.assertEqual(len(all_least_rows(3, 2)), 6)
        self.assertEqual(len(all_least_rows(3, 3)), 28)
        self.assertEqual(len({frozenset(span(3, rows, 3)) for rows in all_least_rows(3, 3)}), 28)


if __name__ == "__main__":
    unittest.main()
