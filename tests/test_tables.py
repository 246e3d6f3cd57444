"""Rows and tables: what they are, how they are put together and how they are written."""

import unittest
from random import Random

from fewmirrors.errors import Flat
from fewmirrors.numbers import is_number, less, number, times
from fewmirrors.tables import (
    back, determinant, is_row, is_table, product, show_row, show_table, through, turned,
)
from tests.helper import (
    GROUNDS, WHEELS, any_things, expected, ones, plain_determinant, plain_product, some_table, span, wholes,
    wide_numbers,
)


def with_other_at(thing, at, other):
    return thing[:at] + (other,) + thing[at + 1:]


def wrong_numbers(ground):
    told = [True, False, None, 1, "1", [1, 1], (1,), (1, 1, 1), (1, True), (True, 1), (1, 0), (1, -1), (2, 2), ()]
    return told + ([(ground, 1), (-1, 1), (1, 2)] if ground else [(0, 2), (2, 4), (0, -1)])


class Kinds(unittest.TestCase):
    def test_right_rows(self):
        random = Random(6)
        for ground in GROUNDS:
            for many in range(1, 11):
                row = some_table(random, ground, 1, many)[0]
                self.assertIs(is_row(ground, row, many), True)
                self.assertIs(is_row(ground, row, many + 1), False)
                self.assertIs(is_row(ground, row + ((0, 1),), many), False)
                self.assertIs(is_row(ground, row[1:], many), False)
                self.assertIs(is_row(ground, list(row), many), False)
                self.assertIs(is_row(ground, (row,), many), False)

    def test_rows_with_one_thing_otherwise(self):
        random = Random(7)
        for ground in GROUNDS:
            for many in (1, 2, 3, 10):
                row = some_table(random, ground, 1, many)[0]
                for at in range(many):
                    for wrong in wrong_numbers(ground):
                        self.assertIs(is_row(ground, with_other_at(row, at, wrong), many), False)

    def test_right_tables(self):
        random = Random(8)
        for ground in GROUNDS:
            for high in (1, 2, 3, 7, 10):
                for wide in (1, 2, 3, 7, 10):
                    table = some_table(random, ground, high, wide)
                    self.assertIs(is_table(ground, table, high, wide), True)
                    self.assertIs(is_table(ground, table, wide, high), high == wide)
                    self.assertIs(is_table(ground, table + table[:1], high, wide), False)
                    self.assertIs(is_table(ground, table[1:], high, wide), False)
                    self.assertIs(is_table(ground, list(table), high, wide), False)
                    self.assertIs(is_table(ground, table, high, wide + 1), False)
                    self.assertIs(is_table(ground, table, high + 1, wide), False)

    def test_tables_with_one_thing_otherwise(self):
        random = Random(9)
        for ground in GROUNDS:
            for high, wide in ((1, 1), (2, 3), (3, 2), (10, 10)):
                table = some_table(random, ground, high, wide)
                for place, row in enumerate(table):
                    for wrong in any_things() + [list(row), row[1:], row + row[:1], (row,)]:
                        self.assertIs(is_table(ground, with_other_at(table, place, wrong), high, wide), False)
                    for at in range(wide):
                        for wrong in wrong_numbers(ground):
                            other = with_other_at(table, place, with_other_at(row, at, wrong))
                            self.assertIs(is_table(ground, other, high, wide), False)

    def test_any_things(self):
        for ground in GROUNDS:
            for thing in any_things() + [0, 1, (0, 1), (1, 1)]:
                for many in (1, 2, 3, 600):
                    self.assertIs(is_row(ground, thing, many), False)
                    self.assertIs(is_table(ground, thing, many, 1), False)
                    self.assertIs(is_table(ground, thing, 1, many), False)
                    self.assertIs(is_table(ground, thing, many, many), False)

    def test_a_number_of_another_ground(self):
        self.assertIs(is_row(0, ((1, 2), (-3, 1)), 2), True)
        self.assertIs(is_row(7, ((1, 2), (3, 1)), 2), False)
        self.assertIs(is_row(7, ((6, 1), (3, 1)), 2), True)
        self.assertIs(is_row(5, ((6, 1), (3, 1)), 2), False)

    def test_what_is_handed_in_stays(self):
        thing = [[(1, 1)], [(0, 1), [2]]]
        is_row(0, thing, 2)
        is_table(0, thing, 2, 1)
        is_table(0, tuple(thing), 2, 1)
        self.assertEqual(thing, [[(1, 1)], [(0, 1), [2]]])


class Together(unittest.TestCase):
    def test_a_row_put_through(self):
        table = wholes(0, (1, 2, 3), (0, -1, "1/2"))
        self.assertEqual(through(0, wholes(0, (2, 4))[0], table), wholes(0, (2, 0, 8))[0])
        self.assertEqual(through(0, wholes(0, ("1/3", 0))[0], table), wholes(0, ("1/3", "2/3", 1))[0])
        self.assertEqual(through(5, wholes(5, (2, 4))[0], wholes(5, (1, 2), (3, 4))), ((4, 1), (0, 1)))
        self.assertEqual(through(0, ((1, 2),), (((2, 3),),)), ((1, 3),))

    def test_products_of_all_measures(self):
        random = Random(10)
        for ground in GROUNDS:
            for high, middle, wide in ((1, 1, 1), (1, 2, 3), (3, 2, 1), (2, 2, 2), (4, 3, 5), (5, 5, 5), (10, 10, 10)):
                one = some_table(random, ground, high, middle)
                other = some_table(random, ground, middle, wide)
                told = product(ground, one, other)
                self.assertEqual(told, plain_product(ground, one, other))
                self.assertIs(is_table(ground, told, high, wide), True)
                self.assertEqual(tuple(through(ground, row, other) for row in one), told)

    def test_the_order_of_a_product(self):
        one, other = wholes(0, (0, 1), (0, 0)), wholes(0, (0, 0), (1, 0))
        self.assertEqual(product(0, one, other), wholes(0, (1, 0), (0, 0)))
        self.assertEqual(product(0, other, one), wholes(0, (0, 0), (0, 1)))

    def test_six_hundred_figures(self):
        x = wide_numbers(11, 8, 600)
        one, other = (tuple(x[:2]), tuple(x[2:4])), (tuple(x[4:6]), tuple(x[6:]))
        self.assertEqual(product(0, one, other), plain_product(0, one, other))
        ten = tuple(wide_numbers(12, 10, 600))
        self.assertEqual(through(0, ten, ones(10)), ten)

    def test_turned(self):
        self.assertEqual(turned(wholes(0, (1, 2, 3), (4, 5, 6))), wholes(0, (1, 4), (2, 5), (3, 6)))
        self.assertEqual(turned(wholes(0, (1, 2, 3))), wholes(0, (1,), (2,), (3,)))
        self.assertEqual(turned((((1, 2),),)), (((1, 2),),))
        random = Random(13)
        for high, wide in ((1, 10), (10, 1), (3, 4), (10, 10)):
            table = some_table(random, 0, high, wide)
            self.assertEqual(turned(turned(table)), table)
            self.assertIs(is_table(0, turned(table), wide, high), True)

    def test_a_turned_product(self):
        random = Random(14)
        for ground in GROUNDS:
            one, other = some_table(random, ground, 2, 4), some_table(random, ground, 4, 3)
            self.assertEqual(
                turned(product(ground, one, other)), product(ground, turned(other), turned(one))
            )


class Determinants(unittest.TestCase):
    def test_known_ones(self):
        self.assertEqual(determinant(0, wholes(0, ("-2/3",))), (-2, 3))
        self.assertEqual(determinant(0, wholes(0, (0,))), (0, 1))
        self.assertEqual(determinant(0, wholes(0, (0, 1), (1, 0))), (-1, 1))
        self.assertEqual(determinant(0, wholes(0, (0, 0, 1), (1, 0, 0), (0, 1, 0))), (1, 1))
        self.assertEqual(determinant(0, wholes(0, (0, 0, 1), (0, 1, 0), (1, 0, 0))), (-1, 1))
        self.assertEqual(determinant(0, wholes(0, ("1/2", 1), (1, "1/3"))), (-5, 6))
        self.assertEqual(determinant(7, wholes(7, (3, 5), (6, 1))), (1, 1))
        self.assertEqual(determinant(7, wholes(7, (3,))), (3, 1))

    def test_over_all_ways(self):
        random = Random(15)
        for ground in GROUNDS:
            for many in (1, 2, 3, 4, 5):
                for step in range(12):
                    table = some_table(random, ground, many, many)
                    told = determinant(ground, table)
                    self.assertEqual(told, plain_determinant(ground, table), table)
                    self.assertIs(is_number(ground, told), True)

    def test_first_numbers_nought(self):
        random = Random(16)
        for ground in GROUNDS:
            for many in (2, 3, 4, 5):
                for noughts in range(1, many + 1):
                    table = some_table(random, ground, many, many)
                    table = tuple(
                        ((0, 1),) + row[1:] if place < noughts else row for place, row in enumerate(table)
                    )
                    self.assertEqual(determinant(ground, table), plain_determinant(ground, table))

    def test_ten_rows(self):
        random = Random(17)
        for ground in GROUNDS:
            low, high, expect = triangles(random, ground, 10)
            self.assertEqual(determinant(ground, product(ground, low, high)), expect)
            self.assertEqual(determinant(ground, product(ground, high, low)[::-1]), less(ground, (0, 1), expect))

    def test_six_hundred_figures(self):
        x = wide_numbers(18, 4, 600)
        self.assertEqual(
            determinant(0, (tuple(x[:2]), tuple(x[2:]))), less(0, times(0, x[0], x[3]), times(0, x[1], x[2]))
        )
        whole = tuple(tuple((y[0], 1) for y in wide_numbers(19 + row, 4, 600)) for row in range(4))
        self.assertEqual(determinant(0, whole), plain_determinant(0, whole))


def triangles(random, ground, many):
    """A table of ones from corner to corner with noughts above, one with noughts below, and the determinant."""
    low, high, expect = [], [], (1, 1)
    for place in range(many):
        lower, upper = some_table(random, ground, 2, many)
        low.append(lower[:place] + ((1, 1),) + ((0, 1),) * (many - place - 1))
        factor = expected(ground, random.choice((1, 2, -1)))
        high.append(((0, 1),) * place + (factor,) + upper[place + 1:])
        expect = times(ground, expect, factor)
    return tuple(low), tuple(high), expect


class Backs(unittest.TestCase):
    def check(self, ground, table):
        many = len(table)
        told = back(ground, table)
        self.assertIs(is_table(ground, told, many, many), True)
        self.assertEqual(product(ground, table, told), ones(many))
        self.assertEqual(product(ground, told, table), ones(many))

    def test_known_ones(self):
        self.assertEqual(back(0, wholes(0, ("-2/3",))), wholes(0, ("-3/2",)))
        self.assertEqual(back(0, wholes(0, (1, 2), (3, 4))), wholes(0, (-2, 1), ("3/2", "-1/2")))
        self.assertEqual(back(0, wholes(0, (0, 1), (2, 0))), wholes(0, (0, "1/2"), (1, 0)))
        self.assertEqual(back(5, wholes(5, (2,))), ((((3, 1)),),))

    def test_either_way_about(self):
        random = Random(20)
        seen = 0
        for ground in GROUNDS:
            for many in range(1, 7):
                for step in range(12):
                    table = some_table(random, ground, many, many)
                    if determinant(ground, table) != (0, 1):
                        self.check(ground, table)
                        seen += 1
                    else:
                        with self.assertRaises(Flat):
                            back(ground, table)
        self.assertGreater(seen, 100)

    def test_first_numbers_nought(self):
        self.check(0, wholes(0, (0, 0, 3), (0, "1/2", 1), (-1, 5, 7)))
        self.check(3, wholes(3, (0, 0, 2), (0, 1, 1), (1, 0, 2)))

    def test_ten_rows(self):
        random = Random(21)
        for ground in GROUNDS:
            low, high, expect = triangles(random, ground, 10)
            self.check(ground, product(ground, low, high))

    def test_six_hundred_figures(self):
        x = wide_numbers(22, 4, 600)
        self.check(0, (tuple(x[:2]), tuple(x[2:])))

    def test_flat(self):
        for ground in GROUNDS:
            for table, rank in (
                (wholes(ground, (0,)), 0), (wholes(ground, (0, 0), (0, 0)), 0), (wholes(ground, (1, 2), (2, 4)), 1),
                (wholes(ground, (0, 1), (0, 0)), 1), (wholes(ground, (0, 0, 1), (0, 1, 0), (0, 1, 1)), 2),
                (wholes(ground, (1, 1, 1), (1, 1, 1), (1, 1, 1)), 1),
                (wholes(ground, (1, 0, 1), (0, 1, 1), (1, 1, 2)), 2),
            ):
                with self.assertRaises(Flat) as caught:
                    back(ground, table)
                self.assertEqual(caught.exception.rank, rank)
                self.assertIsInstance(caught.exception.rank, int)

    def test_flat_ranks_on_wheels(self):
        random = Random(23)
        for wheel in (3, 5):
            for step in range(60):
                table = some_table(random, wheel, 3, 3)
                many = len(span(wheel, table, 3))
                rank = [wheel ** power for power in range(4)].index(many)
                if rank == 3:
                    self.check(wheel, table)
                else:
                    with self.assertRaises(Flat) as caught:
                        back(wheel, table)
                    self.assertEqual(caught.exception.rank, rank)

    def test_flat_on_a_wheel_only(self):
        table = ((2, 1), (1, 1)), ((1, 1), (2, 1))
        self.check(0, table)
        self.check(5, table)
        with self.assertRaises(Flat) as caught:
            back(3, table)
        self.assertEqual(caught.exception.rank, 1)

    def test_flat_of_ten_rows(self):
        random = Random(24)
        for ground in GROUNDS:
            for rank in (1, 4, 9):
                low, high, expect = triangles(random, ground, 10)
                table = product(ground, low, high[:rank] + (((0, 1),) * 10,) * (10 - rank))
                with self.assertRaises(Flat) as caught:
                    back(ground, table)
                self.assertEqual(caught.exception.rank, rank)


class Written(unittest.TestCase):
    def test_rows(self):
        self.assertEqual(show_row(wholes(0, (1, "-1/2", 0, -3))[0]), "1 -1/2 0 -3")
        self.assertEqual(show_row(((5, 7),)), "5/7")
        self.assertEqual(show_row(((12, 1), (0, 1))), "12 0")

    def test_tables(self):
        self.assertEqual(show_table(wholes(0, (1, "1/2"), (-2, "-7/3"))), "1 1/2 / -2 -7/3")
        self.assertEqual(show_table((((3, 1),),)), "3")
        self.assertEqual(show_table((((3, 1),), ((1, 2),))), "3 / 1/2")
        self.assertEqual(show_table(wholes(7, (6, 5, 4),)), "6 5 4")

    def test_wheels_and_ten_rows(self):
        for wheel in WHEELS:
            table = tuple(tuple(number(wheel, 10 * row + at) for at in range(10)) for row in range(10))
            text = " / ".join(" ".join(str((10 * row + at) % wheel) for at in range(10)) for row in range(10))
            self.assertEqual(show_table(table), text)


if __name__ == "__main__":
    unittest.main()
