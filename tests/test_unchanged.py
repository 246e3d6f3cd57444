"""What is handed in stays as it was, and the same question has the same answer whatever was asked between."""

import copy
import unittest
from random import Random

from fewmirrors.contraries import contrary_of, keeper_by, signs_for
from fewmirrors.counting import by_count, how_many, keepers_on, ways_of
from fewmirrors.desk import Desk
from fewmirrors.errors import Flat, MirrorError, NoName
from fewmirrors.exchanges import exchanged, otherwise
from fewmirrors.fewest import begun_by, least_count, mirrors_of
from fewmirrors.forms import Form
from fewmirrors.fours import double_turn, four_of, four_times, norm_of, pair_of, turn_of
from fewmirrors.keepers import Keeper, made_of, mirror, same
from fewmirrors.leading import leading, led
from fewmirrors.lengths import are_alike, length_class
from fewmirrors.lines import Line
from fewmirrors.papers import holds, paper_of
from fewmirrors.seats import keeper_of, seats_of
from fewmirrors.texts import read_form, read_keeper
from tests.helper import GROUNDS, multiple, ones, sample_forms, sliding, some_mirrors


def questions(form, keeper, rows):
    """Functions with what is handed in to them, refusals among them."""
    one, other = rows[0], rows[1]
    space, seats = seats_of(keeper)
    nought = ((0, 1),) * len(form.table)
    four = (one + other + ((1, 1),) * 4)[:4]
    return [
        (Form, [form.table, form.ground]), (form.worth, [one]), (form.pair, [one, other]),
        (form.upright, [tuple(rows)]), (form.frame, []), (str, [form]), (repr, [keeper]), (len, [keeper]),
        (Keeper, [form, keeper.table]), (keeper.of, [one]), (keeper.then, [keeper]), (keeper.back, []),
        (keeper.hand, []), (keeper.moved, []), (keeper.still, []), (same, [form]), (mirror, [form, one]),
        (made_of, [form, rows]), (made_of, [form, rows * 9]), (made_of, [form, rows + [nought]]),
        (made_of, [form, rows + [None]]), (leading, [form, one, keeper.of(one)]), (leading, [form, one, other]),
        (led, [form, one, multiple(form.ground, one, (2, 1))]), (led, [form, one, other]), (seats_of, [keeper]),
        (keeper_of, [form, space, seats]), (keeper_of, [form, space + (nought,), seats]), (least_count, [keeper]),
        (mirrors_of, [keeper]), (begun_by, [keeper, one]), (begun_by, [keeper, nought]), (exchanged, [form, rows, 0]),
        (exchanged, [form, rows, 9]), (otherwise, [form, one, other, one]), (otherwise, [form, one, one, other]),
        (length_class, [keeper]), (are_alike, [form.ground, (1, 1), (2, 1)]),
        (are_alike, [form.ground, (1, 1), (0, 1)]),
        (Keeper, [form, (nought,) * len(form.table)]), (Form, [(nought,), form.ground]), (mirror, [form, nought]),
        (contrary_of, [keeper]), (keeper_by, [form, (nought,) * len(form.table)]), (keeper_by, [form, form.table]),
        (signs_for, [keeper]), (four_times, [form.ground, four, four]), (norm_of, [form.ground, four]),
        (turn_of, [form.ground, four]), (turn_of, [form.ground, list(four)]), (four_of, [keeper]),
        (double_turn, [form.ground, four, four]), (double_turn, [form.ground, four, rows]), (pair_of, [keeper]),
        (line_told, [form, rows]), (line_told, [form, rows * 5]), (line_told, [form, rows * 9]),
        (line_told, [form, rows + [None]]), (Line, [form, rows]), (Line, [form]), (how_many, [form]),
        (by_count, [form]), (keepers_on, [form]),
        (ways_of, [keeper]), (holds, [form, ("led", one, one), ([], (1, 1))]), (holds, [form, ["made"], rows]),
        (paper_of, [form, ("led", one, keeper.of(one))]), (paper_of, [form, ("made", keeper.table, 5)]),
        (paper_of, [form, ("seat", keeper.table)]), (paper_of, [form, rows]), (read_form, [str(form)]),
        (read_form, ["1 " + str(form)]), (read_keeper, [str(keeper)]), (read_keeper, [rows]),
        (desk_told, [form, str(keeper).split(" on ")[0]]), (desk_told, [form, "1 a"]),
    ]


def line_told(form, rows):
    """What a line tells from step to step."""
    line = Line(form, rows)
    told = [line.rows(), line.keeper(), len(line), str(line)]
    line.put(rows[0], True)
    told += [line.rows(), line.take(), line.take(True)]
    line.shorten()
    return told + [line.rows(), repr(line)]


def desk_told(form, table):
    """What a desk tells from step to step."""
    desk = Desk(form)
    rows = [f"keeper a {table}", "then b a a", "back c b", "names", "show c", "mirrors b", "drop a", "names", "show a"]
    return [answer(desk.say, [row]) for row in rows]


def answer(function, arguments):
    try:
        return function(*arguments)
    except (MirrorError, Flat, NoName) as error:
        return (type(error), vars(error))


class Unchanged(unittest.TestCase):
    def assert_unchanged(self, form, keeper, rows):
        asked = questions(form, keeper, rows)
        before = copy.deepcopy([arguments for function, arguments in asked])
        first = [answer(*question) for question in asked]
        kept = copy.deepcopy(first)
        self.assertEqual([arguments for function, arguments in asked], before)
        again = [answer(*question) for question in reversed(asked)][::-1]
        self.assertEqual(again, kept)
        self.assertEqual(first, kept)
        for told in again:
            for thing in told if isinstance(told, tuple) else [told]:
                if isinstance(thing, list):
                    thing.append(None)
                    thing.reverse()
        self.assertEqual([answer(*question) for question in asked], kept)
        self.assertEqual(first, kept)
        self.assertEqual([arguments for function, arguments in asked], before)

    def test_samples(self):
        random = Random(200)
        for ground in GROUNDS:
            for form in sample_forms(ground):
                rows = some_mirrors(random, form, 3)
                self.assert_unchanged(form, made_of(form, rows), rows)
                self.assert_unchanged(form, same(form), rows)

    def test_only_rows_of_worth_nought(self):
        random = Random(201)
        for ground in GROUNDS:
            keeper = sliding(ground, 4, 1)
            self.assert_unchanged(keeper.form, keeper, some_mirrors(random, keeper.form, 3))


class Apart(unittest.TestCase):
    def test_other_forms_between(self):
        """The same letters and rows, asked of forms on several grounds in turn."""
        forms = [Form(ones(2), ground) for ground in GROUNDS]
        row = ((1, 1), (1, 1))
        first = [(form.worth(row), form.frame(), mirror(form, row).table) for form in forms]
        again = [(form.worth(row), form.frame(), mirror(form, row).table) for form in forms[::-1]][::-1]
        self.assertEqual(first, again)
        self.assertEqual([told[0] for told in first], [(2, 1)] * len(forms))


if __name__ == "__main__":
    unittest.main()
