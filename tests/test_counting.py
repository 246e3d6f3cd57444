"""All keepers of forms on small wheels, how many there are, and in how many ways mirrors make them."""

import unittest
from random import Random

from fewmirrors.counting import by_count, how_many, keepers_on, ways_of
from fewmirrors.errors import TooMany
from fewmirrors.fewest import least_count
from fewmirrors.forms import Form
from fewmirrors.keepers import Keeper, made_of, same
from tests.helper import (
    WHEELS, AllKeepers, based, contrary_ones, ones, plain_determinant, plain_pair, planes, refusal, sample_forms,
    some_base, some_form, squares, wholes,
)


def small_forms():
    """Forms of one and two letters on each wheel, of three by 3 and by 5, of both kinds."""
    random = Random(250)
    told = []
    for wheel in WHEELS:
        for many in (1, 2, 3):
            if many < 3 or wheel < 7:
                told += [squares(wheel, many), planes(wheel, many), some_form(random, wheel, many)]
                told.append(based(some_base(random, wheel, many), planes(wheel, many)))
    return told


def other_forms():
    """Forms whose keepers aren't told."""
    told = sample_forms(0)
    for wheel in WHEELS:
        told += [squares(wheel, 4), planes(wheel, 4)]
        if wheel > 5:
            told += [squares(wheel, 3), planes(wheel, 3)]
    return told


def is_plain_square(wheel, whole):
    return whole % wheel in {a * a % wheel for a in range(wheel)}


class KeepersOn(unittest.TestCase):
    def test_all_of_them(self):
        for form in small_forms():
            told = keepers_on(form)
            self.assertIs(type(told), list)
            tables = [keeper.table for keeper in told]
            self.assertEqual(tables, sorted(tables))
            self.assertEqual(len(tables), len(set(tables)))
            among = AllKeepers(form)
            self.assertEqual({among.figures(table) for table in tables}, set(among.counts))
            for keeper in told:
                self.assertIs(type(keeper), Keeper)
                self.assertEqual(keeper.form, form)
            self.assertEqual(keepers_on(form, None), told)

    def test_known_ones(self):
        self.assertEqual([keeper.table for keeper in keepers_on(squares(3, 1))], [wholes(3, (1,)), wholes(3, (2,))])
        self.assertEqual([keeper.table for keeper in keepers_on(planes(3, 2))], [
            wholes(3, (0, 1), (1, 0)), wholes(3, (0, 2), (2, 0)), wholes(3, (1, 0), (0, 1)), wholes(3, (2, 0), (0, 2)),
        ])
        self.assertEqual(len(keepers_on(squares(5, 3))), 240)

    def test_a_new_list_each_time(self):
        form = squares(3, 2)
        told = keepers_on(form)
        again = keepers_on(form)
        self.assertIsNot(told, again)
        told.clear()
        self.assertEqual(len(again), 8)
        again[0] = None
        self.assertEqual(len(keepers_on(form)), 8)
        self.assertNotIn(None, keepers_on(form))

    def test_wanted(self):
        for form in small_forms()[::3]:
            asked = []

            def turns(keeper):
                asked.append(keeper)
                return keeper.hand() == 1

            told = keepers_on(wanted=turns, form=form)
            everything = keepers_on(form)
            self.assertEqual(asked, everything)
            self.assertEqual(told, [keeper for keeper in everything if keeper.hand() == 1])
            self.assertIs(type(told), list)

    def test_all_or_none_wanted(self):
        for form in small_forms()[::5]:
            everything = keepers_on(form)
            self.assertEqual(keepers_on(form, lambda keeper: True), everything)
            self.assertEqual(keepers_on(form, lambda keeper: False), [])
            # One that moves nothing is False where a truth is asked; it is told all the same.
            self.assertEqual(keepers_on(form, lambda keeper: keeper == same(form)), [same(form)])

    def test_a_def_that_asks_itself(self):
        form = planes(3, 2)
        told = keepers_on(form, lambda keeper: len(keepers_on(form, lambda other: other == keeper)) == 1)
        self.assertEqual(told, keepers_on(form))

    def test_too_many(self):
        for form in other_forms():
            asked = []
            self.assertIs(refusal(keepers_on, form), TooMany)
            self.assertIs(refusal(keepers_on, form, asked.append), TooMany)
            self.assertEqual(asked, [])


class HowMany(unittest.TestCase):
    def test_against_the_listed(self):
        for form in small_forms():
            self.assertEqual(how_many(form), len(keepers_on(form)))
            self.assertIs(type(how_many(form)), int)

    def test_as_told(self):
        random = Random(251)
        for wheel in WHEELS:
            square = wheel * wheel
            seen = set()
            for step in range(20):
                forms = [some_form(random, wheel, many) for many in range(1, 5)]
                self.assertEqual(how_many(forms[0]), 2)
                whole = plain_determinant(wheel, forms[1].table)[0]
                e = 1 if is_plain_square(wheel, -whole) else -1
                self.assertEqual(how_many(forms[1]), 2 * (wheel - e))
                self.assertEqual(how_many(forms[2]), 2 * wheel * (square - 1))
                f = 1 if is_plain_square(wheel, plain_determinant(wheel, forms[3].table)[0]) else -1
                self.assertEqual(how_many(form=forms[3]), 2 * square * (square - 1) * (square - f))
                seen |= {(2, e), (4, f)}
            self.assertEqual(seen, {(2, 1), (2, -1), (4, 1), (4, -1)})

    def test_known_ones(self):
        self.assertEqual([how_many(squares(3, many)) for many in range(1, 5)], [2, 8, 48, 1152])
        self.assertEqual([how_many(planes(3, many)) for many in range(1, 5)], [2, 4, 48, 1152])
        self.assertEqual([how_many(squares(7, many)) for many in range(1, 5)], [2, 16, 672, 225792])
        self.assertEqual([how_many(squares(13, many)) for many in range(1, 5)], [2, 24, 4368, 9539712])
        other = Form(wholes(3, (1, 0, 0, 0), (0, 1, 0, 0), (0, 0, 1, 0), (0, 0, 0, 2)), 3)
        self.assertEqual(how_many(other), 1440)

    def test_four_letters_gone_through(self):
        other = Form(wholes(3, (1, 0, 0, 0), (0, 1, 0, 0), (0, 0, 1, 0), (0, 0, 0, 2)), 3)
        for form in (squares(3, 4), other):
            self.assertEqual(how_many(form), len(AllKeepers(form).counts))

    def test_too_many(self):
        for form in sample_forms(0):
            self.assertIs(refusal(how_many, form), TooMany)


class ByCount(unittest.TestCase):
    def test_against_the_listed(self):
        for form in small_forms():
            counts = list(AllKeepers(form).counts.values())
            told = by_count(form)
            self.assertIs(type(told), list)
            self.assertEqual(told, [counts.count(many) for many in range(len(form) + 1)])
            self.assertEqual(told, [
                len(keepers_on(form, lambda keeper: least_count(keeper) == many)) for many in range(len(form) + 1)
            ])

    def test_as_told(self):
        random = Random(252)
        for wheel in WHEELS:
            cube = wheel ** 3
            for step in range(20):
                forms = [some_form(random, wheel, many) for many in (1, 2, 3)]
                self.assertEqual(by_count(forms[0]), [1, 1])
                e = 1 if is_plain_square(wheel, -plain_determinant(wheel, forms[1].table)[0]) else -1
                self.assertEqual(by_count(forms[1]), [1, wheel - e, wheel - e - 1])
                told = by_count(form=forms[2])
                self.assertEqual(told, [1, wheel ** 2, cube - wheel - 1, cube - wheel ** 2 - wheel])
                for form in forms:
                    self.assertEqual(sum(by_count(form)), how_many(form))

    def test_a_new_list_each_time(self):
        for form in small_forms():
            told = by_count(form)
            told.append(0)
            told[0] = 7
            self.assertEqual(by_count(form)[0], 1)
            self.assertEqual(len(by_count(form)), len(form) + 1)

    def test_too_many(self):
        for wheel in WHEELS:
            for form in (squares(wheel, 4), planes(wheel, 4)):
                self.assertIs(refusal(by_count, form), TooMany)
            self.assertIsNone(refusal(by_count, squares(wheel, 3)))
        for form in sample_forms(0):
            self.assertIs(refusal(by_count, form), TooMany)


class WaysOf(unittest.TestCase):
    def plain_ways(self, among):
        """In how many ways so many mirrors make each table, by going through all lines."""
        last = {among.figures(ones(len(among.form))): 1}
        told = dict(last)
        while last:
            found = {}
            for table, many in last.items():
                for mirror in among.mirrors:
                    made = among.together(table, mirror)
                    if among.counts[made] == among.counts[table] + 1:
                        found[made] = found.get(made, 0) + many
            told.update(found)
            last = found
        return told

    def test_all_lines_gone_through(self):
        for form in small_forms():
            among = AllKeepers(form)
            ways = self.plain_ways(among)
            keepers = among.keepers()
            for keeper, count in keepers[::1 if len(keepers) < 200 else 7]:
                told = ways_of(keeper)
                self.assertIs(type(told), int)
                self.assertEqual(told, ways[among.figures(keeper.table)])

    def test_none_and_one(self):
        for form in small_forms():
            self.assertEqual(ways_of(same(form)), 1)
            for row in form.frame():
                self.assertEqual(ways_of(keeper=made_of(form, [row])), 1)

    def test_two(self):
        for wheel in WHEELS:
            for form in (squares(wheel, 2), planes(wheel, 2)):
                turned = Keeper(form, contrary_ones(wheel, 2))
                rows = [((1, 1), (a, 1)) for a in range(wheel)] + [((0, 1), (1, 1))]
                expect = len([row for row in rows if plain_pair(form, row, row) != (0, 1)])
                self.assertEqual(ways_of(turned), expect)
        self.assertEqual(ways_of(Keeper(squares(3, 2), contrary_ones(3, 2))), 4)
        self.assertEqual(ways_of(Keeper(planes(3, 2), contrary_ones(3, 2))), 2)

    def test_three(self):
        self.assertEqual(ways_of(Keeper(squares(3, 3), contrary_ones(3, 3))), 24)
        self.assertEqual(ways_of(Keeper(squares(5, 3), contrary_ones(5, 3))), 120)

    def test_too_many(self):
        for form in other_forms():
            for keeper in (same(form), made_of(form, [form.frame()[0]]), made_of(form, list(form.frame()))):
                self.assertIs(refusal(ways_of, keeper), TooMany)


if __name__ == "__main__":
    unittest.main()
