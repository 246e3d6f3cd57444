"""Over the whole program: whichever one goes from, the same keeper is told; whatever paper is taken is so."""

import unittest
from itertools import product as ways
from random import Random

from fewmirrors.contraries import contrary_of, keeper_by, signs_for
from fewmirrors.counting import by_count, how_many, keepers_on
from fewmirrors.desk import Desk
from fewmirrors.fewest import least_count, mirrors_of
from fewmirrors.fours import double_turn, four_of, four_times, pair_of, turn_of
from fewmirrors.keepers import made_of, same
from fewmirrors.lengths import are_alike, length_class
from fewmirrors.lines import Line
from fewmirrors.numbers import times
from fewmirrors.papers import holds, paper_of
from fewmirrors.seats import keeper_of, seats_of
from fewmirrors.tables import determinant, show_row
from fewmirrors.texts import read_form, read_keeper
from tests.helper import (
    GROUNDS, AllKeepers, all_rows, ones, plain_pair, planes, rank, sample_forms, sample_keepers, some_mirrors, squares,
)


def by_mirrors(keeper):
    return made_of(keeper.form, mirrors_of(keeper))


def by_seats(keeper):
    return keeper_of(keeper.form, *seats_of(keeper))


def by_contrary_table(keeper):
    """To a contrary table, behind the mirrors of sign -1, and back."""
    rows = [row for row, sign in zip(keeper.form.frame(), signs_for(keeper)) if sign == -1]
    table = contrary_of(keeper.then(made_of(keeper.form, rows)))
    return keeper_by(keeper.form, table).then(made_of(keeper.form, rows[::-1]))


def by_fours(keeper):
    if keeper.form.table == ones(3):
        return turn_of(keeper.form.ground, four_of(keeper))
    return double_turn(keeper.form.ground, *pair_of(keeper))


def by_text(keeper):
    return read_keeper(str(keeper))


def by_line(keeper):
    line = Line(read_form(str(keeper.form)))
    for row in mirrors_of(keeper)[::-1]:
        line.put(row, front=True)
    return line.keeper()


def by_desk(keeper):
    """Of mirrors put together at a desk."""
    desk = Desk(keeper.form)
    desk.say(f"keeper all {' / '.join(show_row(row) for row in ones(len(keeper.form)))}")
    for row in mirrors_of(keeper):
        desk.say(f"mirror one {show_row(row)}")
        desk.say("then all all one")
    return read_keeper(f"{desk.say('show all')} on {keeper.form}")


def by_paper(keeper):
    rows, space = paper_of(keeper.form, ("fewest", keeper.table, least_count(keeper)))
    return made_of(keeper.form, list(rows))


WAYS = (by_mirrors, by_seats, by_contrary_table, by_text, by_line, by_desk, by_paper)


def has_fours(keeper):
    return keeper.form.table in (ones(3), ones(4)) and keeper.hand() == 1


class Ways(unittest.TestCase):
    def assert_back(self, keeper):
        for way in WAYS + ((by_fours,) if has_fours(keeper) else ()):
            self.assertEqual(way(keeper), keeper, way.__name__)

    def test_samples(self):
        for ground in GROUNDS:
            for keeper in sample_keepers(ground):
                self.assert_back(keeper)

    def test_three_and_four_squares(self):
        random = Random(300)
        for ground in GROUNDS:
            for many in (3, 4):
                form = squares(ground, many)
                for count in (0, 2, 2, 3, 4, 4, 6):
                    self.assert_back(made_of(form, some_mirrors(random, form, count)))

    def test_one_way_after_another(self):
        random = Random(301)
        for ground in GROUNDS:
            for keeper in sample_keepers(ground)[::6]:
                told = keeper
                for way in random.sample(WAYS, len(WAYS)):
                    told = way(told)
                self.assertEqual(told, keeper)

    def test_all_keepers_of_small_wheels(self):
        for form in (squares(3, 1), squares(3, 2), planes(5, 2), squares(3, 3)):
            for keeper in keepers_on(form):
                self.assert_back(keeper)

    def test_fours_of_mirrors(self):
        """Two mirrors of three squares are the turn of their rows' product, taken as fours, the second row first."""
        random = Random(302)
        for ground in GROUNDS:
            form = squares(ground, 3)
            for step in range(8):
                one, other = some_mirrors(random, form, 2)
                four = four_times(ground, ((0, 1),) + other, ((0, 1),) + one)
                keeper = made_of(form, [one, other])
                self.assertEqual(turn_of(ground, four), keeper)
                self.assertEqual(rank(ground, (four, four_of(keeper))), 1)


class Counts(unittest.TestCase):
    def test_of_each_count(self):
        for form in (squares(3, 1), squares(5, 2), planes(7, 2), squares(3, 3), planes(5, 3)):
            counts = [least_count(keeper) for keeper in keepers_on(form)]
            self.assertEqual([counts.count(many) for many in range(len(form) + 1)], by_count(form))
            self.assertEqual(len(counts), how_many(form))

    def test_lengths_of_two_together(self):
        random = Random(303)
        for ground in GROUNDS:
            for form in sample_forms(ground):
                one, other = (made_of(form, some_mirrors(random, form, many)) for many in (2, 3))
                together = times(ground, length_class(one), length_class(other))
                self.assertIs(are_alike(ground, length_class(one.then(other)), together), True)
                seats = seats_of(one)[1]
                if seats:
                    self.assertIs(are_alike(ground, length_class(one), determinant(ground, seats)), True)
                self.assertIs(are_alike(ground, length_class(same(form)), (1, 1)), True)


class Papers(unittest.TestCase):
    """All papers of few rows, on a small wheel."""

    def setUp(self):
        self.form = planes(3, 2)
        self.rows = all_rows(3, 2)
        self.counts = AllKeepers(self.form).counts
        self.tables = list(ways(self.rows, repeat=2))

    def count_of(self, table):
        return self.counts.get(tuple(tuple(x[0] for x in row) for row in table))

    def test_made_and_fewest(self):
        spaces = [(), ones(2)] + [(row,) for row in self.rows[1:]]
        found = {"made": set(), "fewest": set()}
        for many in range(3):
            for rows in ways(self.rows, repeat=many):
                for table in self.tables:
                    if not holds(self.form, ("made", table, many), rows):
                        continue
                    found["made"].add((table, many))
                    taken = [space for space in spaces if holds(self.form, ("fewest", table, many), (rows, space))]
                    if taken:
                        found["fewest"].add((table, many))
                    self.assertLessEqual(len(taken), 1)
        for table in self.tables:
            for many in range(3):
                count = self.count_of(table)
                so = count is not None and count <= many and (many - count) % 2 == 0
                self.assertIs((table, many) in found["made"], so)
                self.assertIs((table, many) in found["fewest"], count == many)

    def test_not_kept(self):
        for table in self.tables:
            taken = [pair for pair in ways(self.rows, repeat=2) if holds(self.form, ("not kept", table), pair)]
            self.assertIs(bool(taken), self.count_of(table) is None)

    def test_led_and_apart(self):
        worthy = [row for row in self.rows if plain_pair(self.form, row, row) != (0, 1)]
        mirrors = [[]] + [[row] for row in self.rows] + [[row, other] for row in self.rows for other in self.rows]
        papers = [(rows, (c, 1)) for rows in mirrors for c in range(3)]
        for one, other in ways(self.rows, repeat=2):
            taken = any(holds(self.form, ("led", one, other), paper) for paper in papers)
            apart = holds(self.form, ("apart", one, other), ())
            if one in worthy and other in worthy:
                self.assertIs(taken, not apart)
            else:
                self.assertEqual((taken, apart), (False, False))

    def test_seats(self):
        seats = [()] + [((x,),) for x in self.rows[0][:1] + ((1, 1), (2, 1))] + self.tables
        for table in self.tables:
            papers = ways([(), ones(2)] + [(row,) for row in self.rows[1:]], seats)
            taken = [paper for paper in papers if holds(self.form, ("seat", table), paper)]
            self.assertEqual(len(taken), 0 if self.count_of(table) is None else 1)
            if taken:
                self.assertEqual(keeper_of(self.form, *taken[0]).table, table)


if __name__ == "__main__":
    unittest.main()
