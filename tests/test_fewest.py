"""The fewest mirrors that make a keeper, and least rows of mirrors that a row begins."""

import unittest
from random import Random

from fewmirrors.errors import NoRow, NoWorth
from fewmirrors.fewest import begun_by, least_count, mirrors_of
from fewmirrors.forms import Form
from fewmirrors.keepers import Keeper, made_of, mirror, same
from fewmirrors.tables import is_row
from tests.helper import (
    GROUNDS, AllKeepers, based_keeper, contrary_ones, most_letters, multiple, no_rows, ones, plain_made,
    plain_pair, planes, refusal, sample_forms, sample_keepers, sliding, sliding_keepers, some_base,
    some_mirrors, some_row, spans_row, squares, wholes, wide_numbers,
)


def plain_count(keeper):
    """How many mirrors are needed, as point 16 tells it."""
    moved = keeper.moved()
    if moved and all(plain_pair(keeper.form, one, other) == (0, 1) for one in moved for other in moved):
        return len(moved) + 2
    return len(moved)


def three_letters_with_planes(ground, many):
    """Keepers whose moved space has three letters, two of which span rows of worth nought only."""
    random = Random(160 + ground)
    told = []
    for by in (1, -1, 2):
        keeper = sliding(ground, many, by)
        rows = some_mirrors(random, keeper.form, 4)
        if many == 5:
            # The last letter is upright to all that slides.
            rows.append(ones(5)[4])
        # Behind such a mirror only rows of worth nought are moved: so it begins no least row.
        told += [mirror(keeper.form, row).then(keeper) for row in rows]
    return told


class Checks(unittest.TestCase):
    def assert_makes(self, keeper, rows):
        self.assertIs(type(rows), list)
        for row in rows:
            self.assertIs(is_row(keeper.form.ground, row, len(keeper.form.table)), True)
            self.assertNotEqual(plain_pair(keeper.form, row, row), (0, 1))
        self.assertEqual(plain_made(keeper.form, rows), keeper.table)

    def assert_least(self, keeper, count=None):
        count = plain_count(keeper) if count is None else count
        self.assertEqual(least_count(keeper), count)
        self.assertIs(type(least_count(keeper)), int)
        self.assertEqual(len(keeper), count)
        rows = mirrors_of(keeper)
        self.assertEqual(len(rows), count)
        self.assert_makes(keeper, rows)


class Least(Checks):
    def test_samples(self):
        for ground in GROUNDS:
            for keeper in sample_keepers(ground):
                self.assert_least(keeper)

    def test_nothing_moved(self):
        for ground in GROUNDS:
            for form in sample_forms(ground):
                self.assertEqual(least_count(same(form)), 0)
                self.assertEqual(mirrors_of(keeper=same(form)), [])

    def test_mirrors(self):
        random = Random(161)
        for ground in GROUNDS:
            for form in sample_forms(ground):
                row = some_row(random, form)
                keeper = mirror(form, row)
                self.assert_least(keeper, 1)
                self.assertEqual(mirror(form, mirrors_of(keeper)[0]), keeper)

    def test_all_contrary(self):
        for ground in GROUNDS:
            for form in sample_forms(ground):
                self.assert_least(Keeper(form, contrary_ones(ground, len(form))), len(form))

    def test_of_many_mirrors(self):
        random = Random(162)
        for ground in GROUNDS:
            for form in sample_forms(ground):
                for many in (2, 7, 15, 16):
                    keeper = made_of(form, some_mirrors(random, form, many))
                    self.assertLessEqual(least_count(keeper), many)
                    self.assertEqual((many - least_count(keeper)) % 2, 0)
                    if ground or many < 8:
                        self.assert_least(keeper)
                    else:
                        self.assertEqual(made_of(form, mirrors_of(keeper)), keeper)

    def test_only_rows_of_worth_nought(self):
        for ground in GROUNDS:
            for keeper in sliding_keepers(ground):
                self.assertEqual(len(keeper.moved()), 2)
                self.assert_least(keeper, 4)

    def test_first_mirrors_that_leave_no_worth(self):
        random = Random(163)
        for ground in GROUNDS:
            for many in range(4, most_letters(ground) + 1):
                for keeper in three_letters_with_planes(ground, many):
                    self.assert_least(keeper, 3)
                    self.assert_least(based_keeper(some_base(random, ground, many), keeper), 3)

    def test_all_keepers_of_small_wheels(self):
        for form in (
            squares(3, 1), squares(13, 1), squares(3, 2), planes(3, 2), squares(5, 2), planes(5, 2), squares(7, 2),
            planes(11, 2), squares(3, 3), planes(3, 3), planes(5, 3),
        ):
            for keeper, count in AllKeepers(form).keepers():
                self.assert_least(keeper, count)

    def test_all_keepers_of_four_letters_by_three(self):
        random = Random(164)
        for form in (planes(3, 4), Form(wholes(3, (1, 0, 0, 0), (0, 1, 0, 0), (0, 0, 1, 0), (0, 0, 0, 2)), 3)):
            for keeper, count in AllKeepers(form).keepers():
                rows = mirrors_of(keeper)
                self.assertEqual((least_count(keeper), len(rows)), (count, count))
                self.assertEqual(made_of(form, rows), keeper)
                if random.random() < 0.02:
                    self.assert_least(keeper, count)

    def test_a_new_list_each_time(self):
        for ground in GROUNDS:
            for keeper in sample_keepers(ground)[::6] + sliding_keepers(ground)[:1]:
                told, again = mirrors_of(keeper), mirrors_of(keeper)
                self.assertEqual(told, again)
                told.append(None)
                told[:1] = []
                self.assertEqual(mirrors_of(keeper), again)
                self.assertEqual(mirrors_of(Keeper(keeper.form, keeper.table)), again)

    def test_two_hundred_figures(self):
        random = Random(165)
        for many in range(1, 6):
            table = [[random.randint(-10 ** 200, 10 ** 200) for to in range(many)] for at in range(many)]
            table = [[table[min(at, to)][max(at, to)] for to in range(many)] for at in range(many)]
            form = Form(wholes(0, *table))
            for count in {1, many // 2, many}:
                keeper = made_of(form, some_mirrors(random, form, count))
                self.assertEqual(least_count(keeper), count)
                rows = mirrors_of(keeper)
                self.assertEqual(len(rows), count)
                self.assertEqual(made_of(form, rows), keeper)

    def test_planes_told_by_numbers_of_two_hundred_figures(self):
        random = Random(166)
        for many in (4, 5):
            base = wholes(0, *[[random.randint(0, 10 ** 100) for to in range(many)] for at in range(many)])
            keeper = based_keeper(base, sliding(0, many, 3))
            rows = mirrors_of(keeper)
            self.assertEqual((least_count(keeper), len(rows)), (4, 4))
            self.assertEqual(made_of(keeper.form, rows), keeper)

    def test_fractions_of_many_figures(self):
        one, other = wide_numbers(167, 2, 200)
        form = Form(((one, (0, 1)), ((0, 1), other)))
        self.assert_least(made_of(form, list(wholes(0, (1, 2), (3, 1)))), 2)
        self.assert_least(made_of(form, [(other, one)]), 1)


class Begun(Checks):
    def assert_begun(self, keeper, row):
        told = begun_by(keeper, row)
        self.assert_makes(keeper, told)
        self.assertEqual(told[0], row)
        self.assertEqual(len(told), plain_count(keeper))

    def test_nothing_moved(self):
        for ground in GROUNDS:
            for form in sample_forms(ground):
                self.assertIsNone(begun_by(same(form), form.frame()[0]))

    def test_told_mirrors_begin(self):
        for ground in GROUNDS:
            for keeper in sample_keepers(ground):
                rows = mirrors_of(keeper)
                if rows:
                    self.assert_begun(keeper, rows[0])
                    self.assert_begun(keeper, multiple(ground, rows[0], (2, 1)))

    def test_rows_outside_of_the_moved_space(self):
        random = Random(170)
        for ground in GROUNDS:
            for keeper in sample_keepers(ground):
                row, moved = some_row(random, keeper.form), keeper.moved()
                if plain_count(keeper) > len(moved):
                    self.assert_begun(keeper, row)
                elif not spans_row(ground, moved, row):
                    self.assertIsNone(begun_by(keeper, row))

    def test_rows_of_the_moved_space(self):
        random = Random(171)
        for ground in GROUNDS:
            for form in sample_forms(ground):
                for many in (1, 2, 3):
                    rows = some_mirrors(random, form, many)
                    keeper = made_of(form, rows)
                    if least_count(keeper) == many:
                        self.assert_begun(keeper, rows[0])

    def test_only_rows_of_worth_nought(self):
        random = Random(172)
        for ground in GROUNDS:
            for keeper in sliding_keepers(ground):
                for row in some_mirrors(random, keeper.form, 3):
                    self.assert_begun(keeper, row)

    def test_moved_rows_that_begin_none(self):
        random = Random(173)
        found = 0
        for ground in GROUNDS:
            for many in range(4, most_letters(ground) + 1):
                keeper = sliding(ground, many, 1)
                for row in some_mirrors(random, keeper.form, 6):
                    other = mirror(keeper.form, row).then(keeper)
                    self.assertEqual(least_count(other), 3)
                    self.assertTrue(spans_row(ground, other.moved(), row))
                    self.assertIsNone(begun_by(row=row, keeper=other))
                    found += 1
        self.assertGreater(found, 30)

    def test_all_lines_of_small_wheels(self):
        for form in (
            squares(3, 2), planes(3, 2), squares(5, 2), planes(7, 2), squares(3, 3), planes(3, 3), squares(13, 1),
        ):
            everything = AllKeepers(form)
            for keeper, count in everything.keepers():
                for at, row in enumerate(everything.lines):
                    self.assert_begun_or_none(everything, keeper, at, row)

    def test_four_letters_by_three(self):
        form = planes(3, 4)
        everything = AllKeepers(form)
        keepers = everything.keepers()
        slow = [keeper for keeper, count in keepers if count == 4 and len(keeper.moved()) == 2]
        for keeper in [keeper for keeper, count in keepers][::40] + slow[::4]:
            for at, row in enumerate(everything.lines):
                self.assert_begun_or_none(everything, keeper, at, row)

    def assert_begun_or_none(self, everything, keeper, at, row):
        if everything.begins(keeper, at):
            self.assert_begun(keeper, row)
        else:
            self.assertIsNone(begun_by(keeper, row))

    def test_a_new_list_each_time(self):
        for ground in GROUNDS:
            for keeper in sample_keepers(ground)[2::7] + sliding_keepers(ground)[:1]:
                rows = mirrors_of(keeper)
                if rows:
                    told, again = begun_by(keeper, rows[0]), begun_by(keeper, rows[0])
                    told.clear()
                    self.assertEqual(begun_by(keeper, rows[0]), again)

    def test_refusals_in_order(self):
        for ground in GROUNDS:
            for many in range(1, most_letters(ground) + 1):
                form = planes(ground, many)
                for keeper in (same(form), Keeper(form, contrary_ones(ground, many))):
                    for thing in no_rows(form):
                        self.assertIs(refusal(begun_by, keeper, thing), NoRow)
                    self.assertIs(refusal(begun_by, keeper, ((0, 1),) * many), NoWorth)
                    if many > 1:
                        self.assertIs(refusal(begun_by, keeper, ones(many)[0]), NoWorth)


if __name__ == "__main__":
    unittest.main()
