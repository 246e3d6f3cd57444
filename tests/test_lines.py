"""Lines: what they keep, what is put and taken, their keepers, when they are the same, how they are written."""

import unittest
from random import Random

from fewmirrors.errors import NoForm, NoPlace, NoRow, NoWorth, TooMany
from fewmirrors.fewest import least_count, mirrors_of
from fewmirrors.forms import Form
from fewmirrors.keepers import Keeper, made_of, same
from fewmirrors.lines import Line
from fewmirrors.tables import is_row
from tests.helper import (
    GROUNDS, any_things, contrary_ones, most_letters, multiple, no_rows, objects, ones, plain_made, plain_pair, planes,
    refusal, sample_forms, sliding_keepers, some_mirrors, some_row, squares, wholes, wide_numbers,
)


class Making(unittest.TestCase):
    def test_of_a_form_alone(self):
        for ground in GROUNDS:
            for form in sample_forms(ground):
                for line in (Line(form), Line(form, None), Line(form, []), Line(rows=None, form=form), Line(form=form)):
                    self.assertEqual(line.rows(), [])
                    self.assertEqual(len(line), 0)
                    self.assertEqual(line.keeper(), same(form))

    def test_of_rows(self):
        random = Random(240)
        for ground in GROUNDS:
            for form in sample_forms(ground):
                for many in (0, 1, 2, 3, 16):
                    rows = some_mirrors(random, form, many)
                    line = Line(rows=rows, form=form)
                    self.assertEqual(line.rows(), rows)
                    self.assertEqual(len(line), many)
                    self.assertEqual(line.keeper().table, plain_made(form, rows))

    def test_no_forms_ahead(self):
        for thing in any_things() + objects() + [0, 1, ones(2)]:
            if not isinstance(thing, Form):
                for rows in (None, [], list(ones(2)), 0, [None], list(ones(2)) * 9):
                    self.assertIs(refusal(Line, thing, rows), NoForm)
                self.assertIs(refusal(Line, thing), NoForm)

    def test_no_rows(self):
        for ground in GROUNDS:
            for many in range(1, most_letters(ground) + 1):
                form = planes(ground, many)
                right, nought = form.frame()[0], ((0, 1),) * many
                for thing in no_rows(form):
                    for rows in ([thing], [right, thing], [right] * 20 + [thing], [nought, thing]):
                        self.assertIs(refusal(Line, form, rows), NoRow)
                for thing in any_things() + objects() + [0, right, (right,), (), "", [[right]]]:
                    if thing is not None and thing != []:
                        self.assertIs(refusal(Line, form, thing), NoRow)

    def test_too_many_ahead_of_no_worth(self):
        for ground in GROUNDS:
            for many in range(1, most_letters(ground) + 1):
                form = planes(ground, many)
                right, nought = form.frame()[0], ((0, 1),) * many
                self.assertIsNone(refusal(Line, form, [right] * 16))
                self.assertIs(refusal(Line, form, [right] * 17), TooMany)
                self.assertIs(refusal(Line, form, [nought] + [right] * 16), TooMany)
                self.assertIs(refusal(Line, form, [right] * 15 + [nought]), NoWorth)
                self.assertIs(refusal(Line, form, [nought]), NoWorth)
                if many > 1:
                    self.assertIs(refusal(Line, form, [right, ones(many)[0]]), NoWorth)

    def test_the_list_changed_behind(self):
        for ground in GROUNDS:
            form = squares(ground, 2)
            rows = list(ones(2))
            line = Line(form, rows)
            rows.append(None)
            rows[0] = (1, 1)
            self.assertEqual(line.rows(), list(ones(2)))
            rows.clear()
            self.assertEqual(line.keeper().table, contrary_ones(ground, 2))
            none = []
            bare = Line(form, none)
            none.append(ones(2)[0])
            self.assertEqual((bare.rows(), len(bare)), ([], 0))

    def test_the_list_handed_in_stays(self):
        for ground in GROUNDS:
            form = squares(ground, 2)
            rows = list(ones(2))
            line = Line(form, rows)
            line.put(ones(2)[1])
            line.put(ones(2)[1], True)
            self.assertEqual(rows, list(ones(2)))
            line.take()
            line.take(True)
            line.take()
            self.assertEqual(rows, list(ones(2)))
            line.shorten()
            self.assertEqual(rows, list(ones(2)))


class Putting(unittest.TestCase):
    def test_at_either_end(self):
        random = Random(241)
        for ground in GROUNDS:
            for form in sample_forms(ground):
                line = Line(form, some_mirrors(random, form, 1))
                expect = line.rows()
                for step in range(14):
                    row = some_row(random, form)
                    self.assertIsNone(self.put(line, row, expect, step))
                    self.assertEqual(line.rows(), expect)
                    self.assertEqual(len(line), len(expect))
                self.assertEqual(line.keeper(), made_of(form, expect))

    def put(self, line, row, expect, step):
        """By place, by name or left out; the list of what is expected is put into likewise."""
        ways = [
            (False, lambda: line.put(row)), (True, lambda: line.put(row, True)), (False, lambda: line.put(row, False)),
            (True, lambda: line.put(row, front=True)), (False, lambda: line.put(front=False, row=row)),
            (True, lambda: line.put(front=True, row=row)),
        ]
        front, way = ways[step % len(ways)]
        expect.insert(0 if front else len(expect), row)
        return way()

    def test_up_to_sixteen(self):
        for ground in GROUNDS:
            for form in sample_forms(ground):
                row = form.frame()[0]
                line = Line(form)
                for step in range(16):
                    line.put(row, step % 2 == 0)
                self.assertEqual(line.rows(), [row] * 16)
                other = multiple(ground, row, (2, 1))
                for front in (True, False):
                    self.assertIs(refusal(line.put, other, front), TooMany)
                    self.assertEqual(line.rows(), [row] * 16)
                line.take()
                line.put(other)
                self.assertEqual(line.rows(), [row] * 15 + [other])

    def test_refusals_in_their_order_change_nothing(self):
        for ground in GROUNDS:
            for many in range(1, most_letters(ground) + 1):
                form = planes(ground, many)
                right, nought = form.frame()[0], ((0, 1),) * many
                for count in (0, 1, 16):
                    line = Line(form, [right] * count)
                    for front in (False, True):
                        for thing in no_rows(form):
                            self.assertIs(refusal(line.put, thing, front), NoRow)
                        self.assertIs(refusal(line.put, nought, front), NoWorth)
                        if many > 1:
                            self.assertIs(refusal(line.put, ones(many)[0], front), NoWorth)
                    self.assertEqual(line.rows(), [right] * count)


class Taking(unittest.TestCase):
    def test_from_either_end(self):
        random = Random(242)
        for ground in GROUNDS:
            for form in sample_forms(ground):
                rows = some_mirrors(random, form, 6)
                line = Line(form, rows)
                self.assertEqual(line.take(), rows[5])
                self.assertEqual(line.take(True), rows[0])
                self.assertEqual(line.rows(), rows[1:5])
                self.assertEqual(line.take(front=True), rows[1])
                self.assertEqual(line.take(front=False), rows[4])
                self.assertEqual(line.keeper(), made_of(form, rows[2:4]))
                self.assertEqual(line.take(False), rows[3])
                self.assertEqual(len(line), 1)
                self.assertEqual(line.take(), rows[2])
                self.assertEqual((len(line), line.rows()), (0, []))

    def test_of_none(self):
        for ground in GROUNDS:
            for form in sample_forms(ground):
                row = form.frame()[0]
                line = Line(form)
                for step in range(2):
                    for arguments in ((), (True,), (False,)):
                        self.assertIs(refusal(line.take, *arguments), NoPlace)
                    self.assertEqual(line.rows(), [])
                    line.put(row)
                    self.assertEqual(line.take(True), row)


class Telling(unittest.TestCase):
    def test_a_new_list_each_time(self):
        for ground in GROUNDS:
            form = squares(ground, 2)
            line = Line(form, list(ones(2)))
            told, again = line.rows(), line.rows()
            self.assertIs(type(told), list)
            self.assertIsNot(told, again)
            told.append(None)
            told[0] = 1
            self.assertEqual(line.rows(), list(ones(2)))
            self.assertEqual(again, list(ones(2)))
            line.put(ones(2)[0])
            line.take(True)
            line.shorten()
            self.assertEqual(again, list(ones(2)))
            again.clear()
            self.assertEqual(len(line), 2)

    def test_keepers_stay(self):
        for ground in GROUNDS:
            form = squares(ground, 2)
            line = Line(form, list(ones(2)))
            keeper = line.keeper()
            self.assertIs(type(keeper), Keeper)
            line.take()
            self.assertEqual(keeper, Keeper(form, contrary_ones(ground, 2)))
            self.assertEqual(line.keeper(), made_of(form, [ones(2)[0]]))

    def test_truth_and_length(self):
        for ground in GROUNDS:
            line = Line(squares(ground, 1))
            self.assertIs(bool(line), False)
            line.put(ones(1)[0])
            self.assertIs(bool(line), True)
            line.put(ones(1)[0])
            # It moves nothing now, but it keeps two mirrors.
            self.assertEqual((bool(line), len(line), bool(line.keeper())), (True, 2, False))
            line.shorten()
            self.assertEqual((bool(line), len(line)), (False, 0))

    def test_texts(self):
        line = Line(squares(0, 2))
        self.assertEqual((str(line), repr(line)), ("none", "Line(none)"))
        line.put(wholes(0, ("1/2", -3))[0])
        self.assertEqual((str(line), repr(line)), ("1/2 -3", "Line(1/2 -3)"))
        line.put(wholes(0, (0, 7))[0])
        line.put(wholes(0, ("-5/3", 0))[0], True)
        self.assertEqual(str(line), "-5/3 0, 1/2 -3, 0 7")
        self.assertEqual(repr(line), "Line(-5/3 0, 1/2 -3, 0 7)")
        line = Line(squares(7, 3), list(wholes(7, (6, 0, 1), (0, 5, 0))))
        self.assertEqual((str(line), repr(line)), ("6 0 1, 0 5 0", "Line(6 0 1, 0 5 0)"))
        self.assertEqual(str(Line(squares(13, 1), list(wholes(13, (12,), (11,))))), "12, 11")

    def test_texts_of_many_figures(self):
        one, other = wide_numbers(243, 2, 600)
        line = Line(squares(0, 2), [(one, other), ((1, 1), one)])
        texts = [f"{x[0]}/{x[1]}" for x in (one, other)]
        self.assertEqual(str(line), f"{texts[0]} {texts[1]}, 1 {texts[0]}")


class Shortening(unittest.TestCase):
    def assert_shortens(self, line):
        keeper, form = line.keeper(), line.keeper().form
        self.assertIsNone(line.shorten())
        rows = line.rows()
        self.assertEqual(len(rows), least_count(keeper))
        self.assertEqual(len(line), len(rows))
        for row in rows:
            self.assertIs(is_row(form.ground, row, len(form)), True)
            self.assertNotEqual(plain_pair(form, row, row), (0, 1))
        self.assertEqual(plain_made(form, rows), keeper.table)
        self.assertEqual(line.keeper(), keeper)

    def test_samples(self):
        random = Random(244)
        for ground in GROUNDS:
            for form in sample_forms(ground):
                for many in (0, 1, 2, 4, 7):
                    line = Line(form, some_mirrors(random, form, many))
                    self.assert_shortens(line)
                    self.assert_shortens(line)

    def test_only_rows_of_worth_nought(self):
        for ground in GROUNDS:
            for keeper in sliding_keepers(ground):
                row = keeper.form.frame()[0]
                line = Line(keeper.form, [row] + mirrors_of(keeper) + [multiple(ground, keeper.of(row), (2, 1))])
                self.assertEqual((line.keeper(), len(line)), (keeper, 6))
                self.assert_shortens(line)
                self.assertEqual(len(line), 4)

    def test_mirrors_that_undo_one_another(self):
        random = Random(245)
        for ground in GROUNDS:
            for form in sample_forms(ground):
                row = some_row(random, form)
                line = Line(form, [row, multiple(ground, row, (2, 1))] * 8)
                line.shorten()
                self.assertEqual(line.rows(), [])
                line.put(row)
                self.assertEqual(line.rows(), [row])

    def test_put_and_taken_behind(self):
        random = Random(246)
        for ground in GROUNDS:
            for form in sample_forms(ground):
                line = Line(form, some_mirrors(random, form, 5))
                line.shorten()
                rows = line.rows()
                row = some_row(random, form)
                line.put(row)
                self.assertEqual(line.rows(), rows + [row])
                self.assertEqual(line.take(), row)
                self.assertEqual(line.rows(), rows)


class Sameness(unittest.TestCase):
    def assert_same(self, one, other):
        self.assertIs(one == other, True)
        self.assertIs(other == one, True)
        self.assertIs(one != other, False)

    def assert_unlike(self, one, other):
        self.assertIs(one == other, False)
        self.assertIs(other == one, False)
        self.assertIs(one != other, True)

    def test_however_made(self):
        random = Random(247)
        for ground in GROUNDS:
            for form in sample_forms(ground):
                rows = some_mirrors(random, form, 4)
                line = Line(form, rows)
                other = Line(Form(form.table, ground))
                for row in rows[::-1]:
                    other.put(row, True)
                self.assert_same(line, other)
                other.shorten()
                self.assert_same(line, other)
                self.assert_same(line, Line(form, [rows[0], rows[0]] + [multiple(ground, row, (2, 1)) for row in rows]))
                other.put(rows[0])
                self.assert_unlike(line, other)
                other.put(rows[0])
                self.assert_same(line, other)

    def test_bare_lines(self):
        for ground in GROUNDS:
            for form in sample_forms(ground):
                row = form.frame()[0]
                self.assert_same(Line(form), Line(form, []))
                self.assert_same(Line(form), Line(form, [row, row]))
                self.assert_unlike(Line(form), Line(form, [row]))

    def test_other_forms(self):
        row = ones(2)[0]
        lines = [Line(squares(ground, 2), [row]) for ground in GROUNDS]
        lines.append(Line(Form(wholes(0, (2, 0), (0, 2))), [row]))
        lines += [Line(squares(0, 1)), Line(squares(0, 3)), Line(squares(3, 3))]
        for at, line in enumerate(lines):
            for to, other in enumerate(lines):
                (self.assert_same if at == to else self.assert_unlike)(line, other)
        # The same keeper's table, but the form is another one.
        self.assertEqual(lines[0].keeper().table, lines[6].keeper().table)

    def test_any_other_thing(self):
        for ground in GROUNDS:
            for form in sample_forms(ground):
                rows = [form.frame()[0]]
                line = Line(form, rows)
                for thing in any_things() + [rows, tuple(rows), form, line.keeper(), str(line), 0, 1, [line], (line,)]:
                    self.assert_unlike(line, thing)
                    self.assert_unlike(Line(form), thing)

    def test_two_lines_have_nothing_in_common(self):
        for ground in GROUNDS:
            form = squares(ground, 2)
            rows = list(ones(2))
            one, other, third, bare = Line(form, rows), Line(form, rows), Line(form), Line(form)
            one.put(ones(2)[0])
            third.put(ones(2)[1])
            self.assertEqual((len(one), len(other), len(third), len(bare)), (3, 2, 1, 0))
            other.take(True)
            self.assertEqual(one.rows(), [ones(2)[0], ones(2)[1], ones(2)[0]])
            one.shorten()
            self.assertEqual(other.rows(), [ones(2)[1]])
            fourth = Line(form, one.rows())
            fourth.take()
            self.assertEqual((len(one), len(fourth)), (1, 0))
            self.assertEqual(bare.rows(), [])


if __name__ == "__main__":
    unittest.main()
