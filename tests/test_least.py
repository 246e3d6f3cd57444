"""Least rows and nought rows."""

import unittest
from itertools import permutations
from random import Random

from fewmirrors.errors import Flat
from fewmirrors.numbers import over
from fewmirrors.tables import (
    back, determinant, is_row, least_rows, nought_rows, product, show_table, through, turned,
)
from tests.helper import (
    GROUNDS, all_rows, are_least, ones, some_number, some_table, span, wholes, wide_numbers,
)


def some_least_rows(random, ground, heads, wide):
    """Least rows with heads at these places."""
    rows = []
    for head in heads:
        row = [(0, 1)] * head + [(1, 1)]
        for at in range(head + 1, wide):
            row.append((0, 1) if at in heads else some_number(random, ground))
        rows.append(tuple(row))
    return tuple(rows)


class Least(unittest.TestCase):
    def test_known_ones(self):
        self.assertEqual(least_rows(0, wholes(0, (2, 4), (1, 3))), ones(2))
        self.assertEqual(least_rows(0, wholes(0, (0, -2, 1), (0, 4, -2))), wholes(0, (0, 1, "-1/2")))
        self.assertEqual(least_rows(0, wholes(0, (1, 2, 3), (4, 5, 6), (7, 8, 9))), wholes(0, (1, 0, -1), (0, 1, 2)))
        self.assertEqual(least_rows(5, wholes(5, (2, 1), (4, 2))), wholes(5, (1, 3)))
        self.assertEqual(least_rows(0, wholes(0, ("1/2", "1/3"))), wholes(0, (1, "2/3")))

    def test_no_rows_and_noughts(self):
        for ground in GROUNDS:
            self.assertEqual(least_rows(ground, ()), ())
            for many in (1, 3, 10):
                for wide in (1, 2, 10):
                    self.assertEqual(least_rows(ground, (((0, 1),) * wide,) * many), ())

    def test_one_row(self):
        for ground in GROUNDS:
            self.assertEqual(least_rows(ground, (((2, 1),),)), (((1, 1),),))
            self.assertEqual(least_rows(ground, (((0, 1), (2, 1)),)), (((0, 1), (1, 1)),))

    def test_spans_on_wheels(self):
        random = Random(30)
        for wheel in (3, 5):
            for high in range(1, 5):
                for wide in range(1, 4):
                    for step in range(8):
                        rows = some_table(random, wheel, high, wide)
                        told = least_rows(wheel, rows)
                        self.assertIs(are_least(told), True)
                        self.assertEqual(span(wheel, told, wide), span(wheel, rows, wide))
                        self.assertEqual(wheel ** len(told), len(span(wheel, rows, wide)))

    def test_what_other_rows_of_the_same_span_come_to(self):
        random = Random(31)
        for ground in GROUNDS:
            for heads, wide in (
                ((0,), 1), ((0,), 4), ((3,), 4), ((0, 1), 2), ((0, 2), 4), ((1, 3), 5), ((0, 1, 4), 6),
                ((1, 2, 5, 8), 10), (tuple(range(10)), 10),
            ):
                rows = some_least_rows(random, ground, heads, wide)
                self.assertEqual(least_rows(ground, rows), rows)
                for high in (len(heads), len(heads) + 1, 10):
                    mixed = product(ground, self.mixer(random, ground, high, len(heads)), rows)
                    self.assertEqual(least_rows(ground, mixed), rows)

    def mixer(self, random, ground, high, wide):
        """A table whose product with some rows spans what they span."""
        square = some_table(random, ground, wide, wide)
        while determinant(ground, square) == (0, 1):
            square = some_table(random, ground, wide, wide)
        rows = list(square)
        while len(rows) < high:
            rows.insert(random.randrange(len(rows) + 1), some_table(random, ground, 1, wide)[0])
        return tuple(rows[:max(high, wide)])

    def test_any_order(self):
        random = Random(32)
        for ground in GROUNDS:
            rows = some_table(random, ground, 4, 4)
            told = least_rows(ground, rows)
            for order in permutations(rows):
                self.assertEqual(least_rows(ground, order), told)
            self.assertEqual(least_rows(ground, rows + rows), told)
            self.assertEqual(least_rows(ground, told), told)

    def test_more_rows_than_numbers_and_fewer(self):
        random = Random(33)
        for ground in GROUNDS:
            for high, wide in ((10, 2), (2, 10), (10, 1), (1, 10), (6, 5), (5, 6)):
                rows = some_table(random, ground, high, wide)
                told = least_rows(ground, rows)
                self.assertIs(are_least(told), True)
                self.assertLessEqual(len(told), min(high, wide))
                for row in told:
                    self.assertIs(is_row(ground, row, wide), True)
                self.assertEqual(least_rows(ground, (told + rows)[:10]), told)

    def test_kinds(self):
        told = least_rows(0, wholes(0, (2, 4), (1, 2)))
        self.assertIsInstance(told, tuple)
        self.assertIsInstance(told[0], tuple)
        self.assertIsInstance(told[0][0], tuple)

    def test_six_hundred_figures(self):
        x = wide_numbers(34, 6, 600)
        rows = (tuple(x[:3]), tuple(x[3:]))
        told = least_rows(0, rows)
        self.assertIs(are_least(told), True)
        # The first two numbers of each row tell which sum of the least rows it is.
        self.assertEqual(product(0, tuple(row[:2] for row in rows), told), rows)

    def test_unlike_bottoms_of_six_hundred_figures(self):
        row = tuple(wide_numbers(38, 10, 600))
        told = least_rows(0, (row, row))
        self.assertEqual(told, (tuple(over(0, x, row[0]) for x in row),))


class Noughts(unittest.TestCase):
    def test_known_ones(self):
        self.assertEqual(nought_rows(0, wholes(0, (1,), (2,))), wholes(0, (1, "-1/2")))
        self.assertEqual(nought_rows(0, wholes(0, (1, 2))), ())
        self.assertEqual(nought_rows(0, wholes(0, (1, 2), (2, 4), (0, 1))), wholes(0, (1, "-1/2", 0)))
        self.assertEqual(nought_rows(0, ones(3)), ())
        self.assertEqual(nought_rows(5, wholes(5, (1,), (2,), (3,))), wholes(5, (1, 0, 3), (0, 1, 1)))

    def test_all_noughts(self):
        for ground in GROUNDS:
            for many in (1, 2, 10):
                for wide in (1, 3, 10):
                    self.assertEqual(nought_rows(ground, (((0, 1),) * wide,) * many), ones(many))

    def test_all_rows_led_to_noughts_on_wheels(self):
        random = Random(35)
        for wheel in (3, 5):
            for high in range(1, 4):
                for wide in range(1, 4):
                    for step in range(8):
                        table = some_table(random, wheel, high, wide)
                        told = nought_rows(wheel, table)
                        self.assertIs(are_least(told), True)
                        led = {row for row in all_rows(wheel, high) if through(wheel, row, table) == ((0, 1),) * wide}
                        self.assertEqual(span(wheel, told, high), led)

    def test_each_ground(self):
        random = Random(36)
        for ground in GROUNDS:
            for high, wide in ((1, 1), (3, 2), (2, 3), (4, 4), (10, 3), (3, 10), (10, 10)):
                table = some_table(random, ground, high, wide)
                told = nought_rows(ground, table)
                self.assertIs(are_least(told), True)
                self.assertEqual(len(told) + len(least_rows(ground, table)), high)
                for row in told:
                    self.assertIs(is_row(ground, row, high), True)
                    self.assertEqual(through(ground, row, table), ((0, 1),) * wide)
                self.assertEqual(least_rows(ground, told), told)

    def test_six_hundred_figures(self):
        x = wide_numbers(37, 2, 600)
        told = nought_rows(0, ((x[0],), (x[1],)))
        self.assertEqual(len(told), 1)
        self.assertEqual(told[0][0], (1, 1))
        self.assertEqual(through(0, told[0], ((x[0],), (x[1],))), ((0, 1),))


class SameAnswers(unittest.TestCase):
    def test_the_same_question_behind_others(self):
        table = wholes(0, (0, 2, 1), (4, 0, "1/2"), (1, 1, 1))
        flat = wholes(0, (1, 2), (2, 4))
        wheel = wholes(3, (0, 2, 1), (1, 0, 2), (1, 1, 1))
        questions = [
            (back, (0, table)), (determinant, (0, table)), (least_rows, (0, flat)), (nought_rows, (0, flat)),
            (determinant, (3, wheel)), (least_rows, (3, wheel)), (nought_rows, (3, wheel)), (turned, (table,)),
            (product, (0, table, table)), (product, (3, wheel, wheel)), (through, (0, table[0], table)),
            (show_table, (table,)), (least_rows, (0, ())),
        ]
        first = [ask(*told) for ask, told in questions]
        with self.assertRaises(Flat):
            back(0, flat)
        self.assertEqual([ask(*told) for ask, told in reversed(questions)], first[::-1])
        self.assertEqual(table, wholes(0, (0, 2, 1), (4, 0, "1/2"), (1, 1, 1)))
        self.assertEqual(flat, wholes(0, (1, 2), (2, 4)))
        self.assertEqual(wheel, wholes(3, (0, 2, 1), (1, 0, 2), (1, 1, 1)))


if __name__ == "__main__":
    unittest.main()
