"""Claims and papers: which papers are taken, and which are told."""

import unittest
from math import isqrt
from random import Random

from fewmirrors.errors import MirrorError, NoClaim
from fewmirrors.fewest import least_count, mirrors_of
from fewmirrors.keepers import Keeper, made_of, mirror
from fewmirrors.leading import led
from fewmirrors.papers import holds, paper_of
from fewmirrors.seats import seats_of
from tests.helper import (
    GROUNDS, WHEELS, AllKeepers, all_rows, any_things, are_least, as_fraction, contrary_ones, expected, is_none_of,
    most_letters, multiple, no_rows, no_tables, objects, ones, plain_made, plain_pair, plain_product, planes, rank,
    refusal, row_gap, sample_forms, sample_keepers, sliding_keepers, some_mirrors, some_row, some_table, squares,
    wholes, wide_numbers, with_number,
)

WORDS = ("made", "fewest", "not kept", "seat", "led", "apart")


def is_plain_square(ground, x):
    if ground:
        return x[0] in {a * a % ground for a in range(ground)}
    return x[0] >= 0 and all(isqrt(part) ** 2 == part for part in x)


def is_plain_table(form, thing, many):
    if not isinstance(thing, tuple) or len(thing) != many:
        return False
    return all(isinstance(row, tuple) and len(row) == many and not any(
        is_no_number(form, x) for x in row
    ) for row in thing)


def is_no_number(form, thing):
    if not isinstance(thing, tuple) or len(thing) != 2 or any(type(part) is not int for part in thing):
        return True
    return expected(form.ground, as_fraction(thing)) != thing if thing[1] > 0 else True


def are_plain_rows(form, things):
    return all(not is_none_of(form, thing) for thing in things)


def are_plain_mirrors(form, things):
    return are_plain_rows(form, things) and all(plain_pair(form, row, row) != (0, 1) for row in things)


def is_plain_claim(form, claim):
    """Looked at plainly, as point 26 tells it."""
    if type(claim) is not tuple or len(claim) < 2 or claim[0] not in WORDS:
        return False
    if claim[0] in ("led", "apart"):
        return len(claim) == 3 and are_plain_mirrors(form, claim[1:])
    if not is_plain_table(form, claim[1], len(form)):
        return False
    if claim[0] in ("not kept", "seat"):
        return len(claim) == 2
    return len(claim) == 3 and type(claim[2]) is int and 0 <= claim[2] <= 16


def is_plain_space(form, table, space):
    """Whether it is the least rows of what the table moves."""
    if type(space) is not tuple or not are_plain_rows(form, space) or not are_least(space):
        return False
    gaps = tuple(row_gap(form.ground, *pair) for pair in zip(ones(len(form)), table))
    return rank(form.ground, gaps) == len(space) and rank(form.ground, gaps + space) == len(space)


def plain_holds(form, claim, paper):
    """Looked at plainly, as point 26 tells it."""
    if not is_plain_claim(form, claim):
        return False
    if claim[0] == "made":
        return plain_made_holds(form, claim, paper)
    if claim[0] == "apart":
        worths = [as_fraction(plain_pair(form, row, row)) for row in claim[1:]]
        together = expected(form.ground, worths[0] * worths[1])
        return type(paper) is tuple and paper == () and not is_plain_square(form.ground, together)
    if type(paper) is not tuple or len(paper) != 2:
        return False
    looker = {
        "fewest": plain_fewest_holds, "not kept": plain_not_kept_holds, "seat": plain_seat_holds,
        "led": plain_led_holds,
    }[claim[0]]
    return looker(form, claim, paper)


def plain_made_holds(form, claim, rows):
    if type(rows) is not tuple or len(rows) != claim[2] or not are_plain_mirrors(form, rows):
        return False
    return plain_made(form, rows) == claim[1]


def plain_fewest_holds(form, claim, paper):
    rows, space = paper
    if not plain_made_holds(form, claim, rows) or not is_plain_space(form, claim[1], space):
        return False
    bare = all(plain_pair(form, one, other) == (0, 1) for one in space for other in space)
    return len(space) == claim[2] or (len(space) == claim[2] - 2 and len(space) > 0 and bare)


def plain_not_kept_holds(form, claim, paper):
    if not are_plain_rows(form, paper):
        return False
    return plain_pair(form, *paper) != plain_pair(form, *plain_product(form.ground, paper, claim[1]))


def plain_seat_holds(form, claim, paper):
    space, seats = paper
    table, many = claim[1], len(form)
    for one in range(many):
        for other in range(many):
            if plain_pair(form, table[one], table[other]) != form.table[one][other]:
                return False
    if not is_plain_space(form, table, space):
        return False
    if not space:
        return type(seats) is tuple and seats == ()
    if not is_plain_table(form, seats, len(space)):
        return False
    heads = [next(at for at, x in enumerate(row) if x[0]) for row in space]
    for letter, row in zip(ones(many), table):
        # The letter's seat products: those of the space's rows, by the numbers at their heads.
        factors = [row_gap(form.ground, letter, row)[head] for head in heads]
        for to, other in enumerate(space):
            sums = sum(as_fraction(x) * as_fraction(seats[at][to]) for at, x in enumerate(factors))
            if expected(form.ground, sums) != expected(form.ground, 2 * as_fraction(plain_pair(form, letter, other))):
                return False
    return True


def plain_led_holds(form, claim, paper):
    rows, c = paper
    if type(rows) is not list or len(rows) > 2 or not are_plain_mirrors(form, rows) or is_no_number(form, c):
        return False
    return plain_product(form.ground, (claim[1],), plain_made(form, rows))[0] == multiple(form.ground, claim[2], c)


def changes(thing):
    """The thing with one thing otherwise, at any place in it."""
    if isinstance(thing, (list, tuple)):
        yield (list if isinstance(thing, tuple) else tuple)(thing)
        kind = type(thing)
        yield kind([*thing, thing[-1] if thing else None])
        if thing:
            yield kind(thing[1:])
            yield kind(thing[:-1])
            yield kind([*thing[1:], thing[0]])
        for at, part in enumerate(thing):
            for other in changes(part):
                yield kind([*thing[:at], other, *thing[at + 1:]])
    else:
        yield from plain_changes(thing)


def plain_changes(thing):
    yield None
    if isinstance(thing, str):
        yield thing + " "
        yield thing.upper()
    else:
        yield thing + 1
        yield -thing
        if thing in (0, 1):
            yield bool(thing)
        yield str(thing)


def table_claims(table):
    """All claims about a table."""
    counted = [(word, table, many) for word in ("made", "fewest") for many in range(17)]
    return counted + [("not kept", table), ("seat", table)]


def some_claims(random, form, keeper):
    """Claims about a keeper, about any table, and about rows: some are so."""
    rows = some_mirrors(random, form, 2)
    count = least_count(keeper)
    table = some_table(random, form.ground, len(form), len(form))
    return [
        ("made", keeper.table, count), ("made", keeper.table, count + 2), ("made", keeper.table, count + 1),
        ("fewest", keeper.table, count), ("fewest", keeper.table, count + 2), ("not kept", keeper.table),
        ("not kept", table), ("seat", keeper.table), ("seat", table), ("made", table, 2), ("fewest", table, 1),
        ("led", rows[0], keeper.of(rows[0])), ("led", *rows), ("apart", *rows), ("apart", rows[0], rows[0]),
    ]


class Checks(unittest.TestCase):
    def assert_holds(self, form, claim, paper):
        told = holds(form, claim, paper)
        self.assertIs(told, plain_holds(form, claim, paper), (claim, paper))
        return told


class Right(Checks):
    def test_papers_that_are_told(self):
        random = Random(260)
        for ground in GROUNDS:
            for keeper in sample_keepers(ground)[::2]:
                for claim in some_claims(random, keeper.form, keeper):
                    paper = paper_of(keeper.form, claim)
                    if paper is not None:
                        self.assertIs(self.assert_holds(keeper.form, claim, paper), True)

    def test_papers_of_other_hands(self):
        random = Random(261)
        for ground in GROUNDS:
            for form in sample_forms(ground):
                rows = some_mirrors(random, form, 3)
                keeper = made_of(form, rows)
                self.assertIs(self.assert_holds(form, ("made", keeper.table, 3), tuple(rows)), True)
                twice = tuple(rows) + (rows[0], rows[0])
                self.assertIs(self.assert_holds(form, ("made", keeper.table, 5), twice), True)
                self.assertIs(self.assert_holds(form, ("made", keeper.table, 3), tuple(rows[::-1])),
                              made_of(form, rows[::-1]) == keeper)
                fewest = (tuple(mirrors_of(keeper)), keeper.moved())
                self.assertIs(self.assert_holds(form, ("fewest", keeper.table, len(fewest[0])), fewest), True)
                self.assertIs(self.assert_holds(form, ("seat", keeper.table), seats_of(keeper)), True)

    def test_by_their_names(self):
        form = squares(0, 1)
        self.assertIs(holds(paper=(), claim=("made", ones(1), 0), form=form), True)
        self.assertEqual(paper_of(claim=("made", ones(1), 0), form=form), ())

    def test_nothing_moved(self):
        for ground in GROUNDS:
            for form in sample_forms(ground):
                table = ones(len(form))
                self.assertIs(holds(form, ("made", table, 0), ()), True)
                self.assertIs(holds(form, ("fewest", table, 0), ((), ())), True)
                self.assertIs(holds(form, ("seat", table), ((), ())), True)
                row = form.frame()[0]
                self.assertIs(holds(form, ("made", table, 2), (row, row)), True)
                # Two mirrors make it, but the space is bare: so they aren't the fewest.
                self.assertIs(holds(form, ("fewest", table, 2), ((row, row), ())), False)
                for paper in ([], ((),), None, (None,), ((), ()), ([],)):
                    self.assertIs(holds(form, ("made", table, 0), paper), False)
                for paper in ((), ((),), ((), (), ()), ([], ()), ((), []), [(), ()], (None, ()), ((), None)):
                    self.assertIs(holds(form, ("fewest", table, 0), paper), False)
                    self.assertIs(holds(form, ("seat", table), paper), False)

    def test_two_mirrors_more(self):
        for ground in GROUNDS:
            for keeper in sliding_keepers(ground):
                rows = mirrors_of(keeper)
                paper = (tuple(rows), keeper.moved())
                self.assertIs(self.assert_holds(keeper.form, ("fewest", keeper.table, 4), paper), True)
                self.assertIs(self.assert_holds(keeper.form, ("fewest", keeper.table, 6), paper), False)
                more = (tuple(rows + rows[:1] * 2), keeper.moved())
                self.assertIs(self.assert_holds(keeper.form, ("fewest", keeper.table, 6), more), False)

    def test_two_mirrors_more_where_a_row_has_worth(self):
        random = Random(262)
        for ground in GROUNDS:
            for form in sample_forms(ground):
                keeper = mirror(form, some_row(random, form))
                rows = tuple(mirrors_of(keeper) * 3)
                self.assertIs(self.assert_holds(form, ("made", keeper.table, 3), rows), True)
                self.assertIs(self.assert_holds(form, ("fewest", keeper.table, 3), (rows, keeper.moved())), False)
                self.assertIs(self.assert_holds(form, ("fewest", keeper.table, 1), (rows[:1], keeper.moved())), True)

    def test_other_papers_of_not_kept(self):
        random = Random(263)
        for ground in GROUNDS:
            for form in sample_forms(ground):
                kept = made_of(form, some_mirrors(random, form, 2)).table
                table = with_number(kept, 0, 0, expected(ground, as_fraction(kept[0][0]) + 1))
                for step in range(6):
                    paper = some_table(random, ground, 2, len(form))
                    self.assert_holds(form, ("not kept", table), paper)
                    self.assertIs(self.assert_holds(form, ("not kept", kept), paper), False)

    def test_seats_by_other_rows(self):
        """The space is told by its least rows only."""
        for ground in GROUNDS:
            form = squares(ground, 2)
            keeper = mirror(form, wholes(ground, (1, 0))[0])
            self.assertIs(holds(form, ("seat", keeper.table), (wholes(ground, (1, 0)), wholes(ground, (1,)))), True)
            self.assertIs(holds(form, ("seat", keeper.table), (wholes(ground, (2, 0)), wholes(ground, (4,)))), False)

    def test_other_ways_to_lead(self):
        random = Random(264)
        for ground in GROUNDS:
            for form in sample_forms(ground):
                row, by, other = some_mirrors(random, form, 3)
                to = mirror(form, by).of(row)
                claim = ("led", row, to)
                self.assertIs(self.assert_holds(form, claim, ([by], (1, 1))), True)
                self.assertIs(self.assert_holds(form, claim, ([by, to], expected(ground, -1))), True)
                self.assertIs(self.assert_holds(form, claim, ([by, to, to], (1, 1))), False)
                self.assert_holds(form, claim, ([by, other], (1, 1)))
                self.assert_holds(form, claim, ([], (1, 1)))
                self.assertIs(self.assert_holds(form, claim, ([by], (0, 1))), False)
                half = expected(ground, as_fraction((1, 2)))
                self.assertIs(self.assert_holds(form, ("led", row, multiple(ground, to, (2, 1))), ([by], half)), True)
                self.assertIs(self.assert_holds(form, ("led", row, row), ([], (1, 1))), True)

    def test_apart(self):
        for ground in GROUNDS:
            for form in sample_forms(ground):
                random = Random(265)
                for step in range(4):
                    rows = some_mirrors(random, form, 2)
                    self.assertIs(self.assert_holds(form, ("apart", *rows), ()), led(form, *rows) is None)
                    for paper in ([], None, ((),), False, "", 0, (1,)):
                        self.assertIs(holds(form, ("apart", *rows), paper), False)


class Otherwise(Checks):
    def sample(self, random, things, many):
        things = list(things)
        return things if len(things) <= many else random.sample(things, many)

    def assert_others(self, random, form, claim, paper):
        for other in self.sample(random, changes(paper), 20):
            self.assert_holds(form, claim, other)
        for other in self.sample(random, changes(claim), 12):
            self.assert_holds(form, other, paper)
            # A claim of its own may be so; but it must be one.
            wrong = refusal(paper_of, form, other)
            self.assertIs(wrong, None if is_plain_claim(form, other) else NoClaim, other)

    def test_one_thing_otherwise(self):
        random = Random(266)
        for ground in GROUNDS:
            for keeper in sample_keepers(ground)[::5]:
                for claim in some_claims(random, keeper.form, keeper):
                    paper = paper_of(keeper.form, claim)
                    if paper is not None:
                        self.assert_others(random, keeper.form, claim, paper)

    def test_each_thing_otherwise_in_few_letters(self):
        random = Random(267)
        for ground in (0, 3, 7):
            for form in (squares(ground, 1), planes(ground, 2)):
                keeper = made_of(form, some_mirrors(random, form, len(form)))
                for claim in some_claims(random, form, keeper):
                    paper = paper_of(form, claim)
                    if paper is not None:
                        for other in changes(paper):
                            self.assert_holds(form, claim, other)

    def test_truths_for_numbers(self):
        for ground in GROUNDS:
            form = squares(ground, 1)
            row, true = ((1, 1),), ((True, 1),)
            contrary = contrary_ones(ground, 1)
            right = [
                (("made", contrary, 1), (row,), (true,)),
                (("fewest", contrary, 1), ((row,), (row,)), ((row,), (true,))),
                (("fewest", contrary, 1), ((row,), (row,)), ((true,), (row,))),
                (("seat", contrary), ((row,), (row,)), ((row,), (true,))),
                (("seat", contrary), ((row,), (row,)), ((true,), (row,))),
                (("led", row, row), ([], (1, 1)), ([], (True, 1))), (("led", row, row), ([], (1, 1)), ([], (1, True))),
            ]
            for claim, paper, wrong in right:
                self.assertIs(holds(form, claim, paper), True)
                self.assertIs(holds(form, claim, wrong), False)
            self.assertIs(holds(form, ("made", contrary, True), (row,)), False)
            self.assertIs(holds(form, ("made", ones(1), False), ()), False)
            self.assertIs(holds(form, ("made", (true,), 0), ()), False)
            self.assertIs(holds(form, ("led", true, row), ([], (1, 1))), False)

    def test_rows_of_worth_nought(self):
        for ground in GROUNDS:
            for many in range(1, most_letters(ground) + 1):
                form = planes(ground, many)
                nought, table = ((0, 1),) * many, ones(many)
                self.assertIs(holds(form, ("made", table, 2), (nought, nought)), False)
                self.assertIs(holds(form, ("made", table, 1), (nought,)), False)
                right = form.frame()[0]
                self.assertIs(holds(form, ("led", right, right), ([nought], (1, 1))), False)
                for rows in ((nought, nought), (right, nought), (nought, right)):
                    for word, paper in (("led", ([], (1, 1))), ("led", ([], (0, 1))), ("apart", ())):
                        self.assertIs(holds(form, (word, *rows), paper), False)
                        self.assertIs(refusal(paper_of, form, (word, *rows)), NoClaim)

    def test_any_things(self):
        for ground in GROUNDS:
            form = squares(ground, 2)
            keeper = Keeper(form, contrary_ones(ground, 2))
            claims = [
                ("made", keeper.table, 2), ("fewest", keeper.table, 2), ("not kept", wholes(ground, (1, 1), (0, 1))),
                ("seat", keeper.table), ("led", ones(2)[0], ones(2)[1]), ("apart", *wholes(ground, (1, 0), (1, 1))),
            ]
            for claim in claims:
                for thing in any_things() + objects() + [0, 1, (1, 1)]:
                    self.assert_holds(form, claim, thing)
                    self.assert_holds(form, claim, (thing, thing))
                    self.assert_holds(form, claim, ([thing], (1, 1)))
                    self.assert_holds(form, claim, ((thing, ones(2)[0]), ones(2)))
                    self.assert_holds(form, claim, (ones(2), thing))
            for thing in any_things() + objects() + [0, 1, (1, 1)]:
                for paper in ((), ((), ()), thing, ([], (1, 1))):
                    self.assertIs(holds(form, thing, paper), False)
                    for word in WORDS + (thing,):
                        for claim in ((word, thing), (word, thing, thing), (word, thing, 0), (word, ones(2)[0], thing)):
                            self.assertIs(holds(form, claim, paper), False)


class PaperOf(Checks):
    def test_just_where_it_is_so(self):
        random = Random(268)
        for ground in GROUNDS:
            for keeper in sample_keepers(ground)[::4]:
                count = least_count(keeper)
                for claim in table_claims(keeper.table):
                    so = {
                        "made": lambda: claim[2] >= count and (claim[2] - count) % 2 == 0,
                        "fewest": lambda: claim[2] == count, "not kept": lambda: False, "seat": lambda: True,
                    }[claim[0]]()
                    paper = paper_of(keeper.form, claim)
                    self.assertIs(paper is not None, so, claim)
                    if so:
                        self.assertIs(holds(keeper.form, claim, paper), True)
                row, other = some_mirrors(random, keeper.form, 2)
                self.assert_led_or_apart(keeper.form, row, other)
                self.assert_led_or_apart(keeper.form, row, keeper.of(row))
                self.assert_led_or_apart(keeper.form, row, multiple(ground, keeper.of(row), (2, 1)))

    def assert_led_or_apart(self, form, row, other):
        way, apart = paper_of(form, ("led", row, other)), paper_of(form, ("apart", row, other))
        self.assertIs(way is None, apart is not None)
        if way is None:
            self.assertEqual(apart, ())
            self.assertIs(type(apart), tuple)
            self.assertIs(self.assert_holds(form, ("apart", row, other), apart), True)
        else:
            self.assertIs(self.assert_holds(form, ("led", row, other), way), True)

    def test_tables_that_are_not_kept(self):
        random = Random(269)
        for ground in GROUNDS:
            for form in sample_forms(ground):
                table = some_table(random, ground, len(form), len(form))
                pairs = [[plain_pair(form, one, other) for other in table] for one in table]
                if tuple(map(tuple, pairs)) != form.table:
                    for claim in table_claims(table):
                        paper = paper_of(form, claim)
                        self.assertIs(paper is None, claim[0] != "not kept")
                    told = paper_of(form, ("not kept", table))
                    self.assertIs(self.assert_holds(form, ("not kept", table), told), True)

    def test_all_tables_of_a_small_wheel(self):
        form = squares(3, 2)
        kept = AllKeepers(form).counts
        for table in [(one, other) for one in all_rows(3, 2) for other in all_rows(3, 2)]:
            figures = tuple(tuple(x[0] for x in row) for row in table)
            for many in range(5):
                so = figures in kept and kept[figures] <= many and (many - kept[figures]) % 2 == 0
                self.assertIs(paper_of(form, ("made", table, many)) is not None, so)
                so = figures in kept and kept[figures] == many
                self.assertIs(paper_of(form, ("fewest", table, many)) is not None, so)
            self.assertIs(paper_of(form, ("not kept", table)) is None, figures in kept)
            self.assertIs(paper_of(form, ("seat", table)) is not None, figures in kept)

    def test_counts(self):
        for ground in GROUNDS:
            form = squares(ground, 2)
            for word in ("made", "fewest"):
                for count in (-1, 17, 600, -16, 10 ** 199, True, False, None, "2", (2, 1), [2], (2,), 2.0):
                    self.assertIs(refusal(paper_of, form, (word, ones(2), count)), NoClaim)
                    self.assertIs(holds(form, (word, ones(2), count), ()), False)
                for count in range(17):
                    self.assertIsNone(refusal(paper_of, form, (word, ones(2), count)))
            self.assertEqual(len(paper_of(form, ("made", ones(2), 16))), 16)

    def test_no_claims(self):
        for ground in GROUNDS:
            for many in range(1, most_letters(ground) + 1):
                form = squares(ground, many)
                row = ones(many)[0]
                for thing in no_tables(many):
                    for claim in (("made", thing, 2), ("fewest", thing, 2), ("not kept", thing), ("seat", thing)):
                        self.assertIs(refusal(paper_of, form, claim), NoClaim)
                for thing in no_rows(form):
                    for word in ("led", "apart"):
                        self.assertIs(refusal(paper_of, form, (word, row, thing)), NoClaim)
                        self.assertIs(refusal(paper_of, form, (word, thing, row)), NoClaim)

    def test_words_and_parts(self):
        for ground in GROUNDS:
            form = squares(ground, 2)
            table, row = ones(2), ones(2)[0]
            right = [
                ("made", table, 2), ("fewest", table, 0), ("not kept", table), ("seat", table), ("led", row, row),
                ("apart", row, row),
            ]
            for claim in right:
                self.assertIsNone(refusal(paper_of, form, claim))
                wrong = [list(claim), claim[1:], claim[:-1], claim + claim[-1:], claim + (None,), (claim,), claim[0]]
                words = ["", "Made", "notkept", "not  kept", "leads", None, True, 0]
                words += [claim[0] + " ", " " + claim[0], (claim[0],)]
                wrong += [(word, *claim[1:]) for word in words]
                for thing in wrong:
                    self.assertIs(refusal(paper_of, form, thing), NoClaim)
                    self.assertIs(holds(form, thing, ()), False)
            for thing in any_things() + objects() + [0, 1, (1, 1)]:
                self.assertIs(refusal(paper_of, form, thing), NoClaim)
                for word in WORDS:
                    self.assertIs(refusal(paper_of, form, (word, thing)), NoClaim)
                    self.assertIs(refusal(paper_of, form, (word, thing, thing)), NoClaim)

    def test_numbers_of_another_ground(self):
        half = wholes(0, ("1/2", 0), (0, 2))
        self.assertIsNone(refusal(paper_of, planes(0, 2), ("seat", half)))
        for wheel in WHEELS:
            self.assertIs(refusal(paper_of, planes(wheel, 2), ("seat", half)), NoClaim)
            self.assertIs(refusal(paper_of, planes(wheel, 2), ("made", wholes(0, (wheel, 0), (0, 1)), 1)), NoClaim)

    def test_kinds_of_papers(self):
        form = squares(0, 2)
        table = contrary_ones(0, 2)
        self.assertIs(type(paper_of(form, ("made", table, 2))), tuple)
        rows, space = paper_of(form, ("fewest", table, 2))
        self.assertEqual((type(rows), type(space)), (tuple, tuple))
        rows, c = paper_of(form, ("led", *ones(2)))
        self.assertEqual((type(rows), type(c)), (list, tuple))
        rows.append(None)
        self.assertEqual(len(paper_of(form, ("led", *ones(2)))[0]), 1)

    def test_many_figures(self):
        one, other = wide_numbers(270, 2, 150)
        form = squares(0, 2)
        keeper = made_of(form, [(one, other), ((1, 1), one)])
        for claim in (("made", keeper.table, 4), ("fewest", keeper.table, 2), ("seat", keeper.table)):
            paper = paper_of(form, claim)
            self.assertIs(holds(form, claim, paper), True)
        self.assertIsNone(paper_of(form, ("made", keeper.table, 3)))

    def test_refusals_are_of_their_own(self):
        with self.assertRaises(MirrorError) as caught:
            paper_of(squares(0, 1), None)
        self.assertIs(type(caught.exception), NoClaim)

    def test_not_changed(self):
        form = squares(0, 2)
        row, other = ones(2)
        paper = ([row_gap(0, row, other)], (1, 1))
        kept = ([row_gap(0, row, other)], (1, 1))
        for step in range(3):
            self.assertIs(holds(form, ("led", row, other), paper), True)
            self.assertEqual(paper, kept)


if __name__ == "__main__":
    unittest.main()
