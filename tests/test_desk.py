"""A desk: the rows of words that it is told, its answers, and its refusals in their order."""

import unittest
from random import Random

from fewmirrors.desk import Desk
from fewmirrors.errors import MirrorError, NoForm, NoName, NoSaying, NotKept, NoText, NoWorth
from fewmirrors.forms import Form
from fewmirrors.keepers import Keeper, made_of, mirror, same
from fewmirrors.lengths import are_alike
from fewmirrors.texts import read_form
from tests.helper import (
    GROUNDS, any_things, as_fraction, contrary_ones, expected, objects, ones, plain_made, plain_pair, planes, rank,
    sample_forms, sample_keepers, sliding_keepers, some_mirrors, some_row, squares, wholes, wide_numbers,
)

WORDS = (
    "mirror", "keeper", "then", "back", "drop", "show", "count", "mirrors", "moved", "still", "hand", "same", "class",
    "names",
)
TOLD_OF_ONE = ("drop", "show", "count", "mirrors", "moved", "still", "hand", "class")


def row_text(row):
    return " ".join(str(x[0]) if x[1] == 1 else f"{x[0]}/{x[1]}" for x in row)


def table_text(table):
    return " / ".join(row_text(row) for row in table)


def read_row(ground, text):
    return wholes(ground, text.split(" "))[0]


def refused(desk, row):
    """The refusal of a row, or None."""
    try:
        desk.say(row)
    except (MirrorError, NoName) as error:
        return error
    return None


def state(desk):
    """All that a desk tells of its keepers' tables."""
    names = desk.say("names")
    return [(name, desk.say(f"show {name}")) for name in names.split(" ") if names != "none"]


class Checks(unittest.TestCase):
    def assert_refused(self, desk, row, wrong):
        before = state(desk)
        error = refused(desk, row)
        self.assertIs(type(error), wrong, row)
        self.assertEqual(state(desk), before)
        return error

    def assert_no_name(self, desk, row, name):
        self.assertEqual(self.assert_refused(desk, row, NoName).name, name)

    def desk(self, form, **rows):
        """A desk with a mirror by each name."""
        desk = Desk(form)
        for name, row in rows.items():
            self.assertEqual(desk.say(f"mirror {name} {row}"), "ok")
        return desk


class Making(Checks):
    def test_of_a_form(self):
        for ground in GROUNDS:
            for form in sample_forms(ground):
                self.assertEqual(Desk(form=form).say("names"), "none")

    def test_no_forms(self):
        for thing in any_things() + objects() + [0, 1, ones(2), "1 0 / 0 1"]:
            if not isinstance(thing, Form):
                with self.assertRaises(MirrorError) as caught:
                    Desk(thing)
                self.assertIs(type(caught.exception), NoForm)

    def test_two_desks_have_nothing_in_common(self):
        form = squares(0, 2)
        one, other = Desk(form), Desk(form)
        one.say("mirror a 1 0")
        self.assertEqual((one.say("names"), other.say("names")), ("a", "none"))
        other.say("mirror a 0 1")
        self.assertEqual(one.say("show a"), "-1 0 / 0 1")
        self.assertEqual(other.say("show a"), "1 0 / 0 -1")
        other.say("drop a")
        self.assertEqual((one.say("names"), other.say("names")), ("a", "none"))
        self.assertEqual(Desk(form).say("names"), "none")


class Answers(Checks):
    def test_mirrors(self):
        random = Random(290)
        for ground in GROUNDS:
            for form in sample_forms(ground):
                desk = Desk(form)
                row = some_row(random, form)
                self.assertEqual(desk.say(row=f"mirror a {row_text(row)}"), "ok")
                self.assertEqual(desk.say("show a"), table_text(plain_made(form, [row])))
                other = some_row(random, form)
                self.assertEqual(desk.say(f"mirror a {row_text(other)}"), "ok")
                self.assertEqual(desk.say("show a"), table_text(mirror(form, other).table))
                self.assertEqual(desk.say("names"), "a")

    def test_all_that_is_told_of_a_keeper(self):
        for ground in GROUNDS:
            for keeper in sample_keepers(ground)[::2] + sliding_keepers(ground):
                self.assert_told(keeper)

    def assert_told(self, keeper):
        form, ground = keeper.form, keeper.form.ground
        desk = Desk(form)
        self.assertEqual(desk.say(f"keeper k {table_text(keeper.table)}"), "ok")
        self.assertEqual(desk.say("show k"), table_text(keeper.table))
        self.assertEqual(desk.say("count k"), str(len(keeper)))
        self.assertEqual(desk.say("hand k"), str(keeper.hand()))
        self.assertEqual(desk.say("moved k"), table_text(keeper.moved()) or "none")
        self.assertEqual(desk.say("still k"), table_text(keeper.still()) or "none")
        text = desk.say("mirrors k")
        rows = [] if text == "none" else [read_row(ground, part) for part in text.split(", ")]
        self.assertEqual(text, ", ".join(row_text(row) for row in rows) or "none")
        self.assertEqual(len(rows), len(keeper))
        self.assertEqual(plain_made(form, rows), keeper.table)
        told = read_row(ground, desk.say("class k"))[0]
        self.assertEqual(desk.say("class k"), row_text((told,)))
        worths = as_fraction((1, 1))
        for row in rows:
            worths = as_fraction(expected(ground, worths * as_fraction(plain_pair(form, row, row))))
        self.assertIs(are_alike(ground, told, expected(ground, worths)), True)
        self.assertEqual(state(desk), [("k", table_text(keeper.table))])

    def test_none(self):
        for ground in GROUNDS:
            for form in sample_forms(ground):
                many = len(form)
                desk = Desk(form)
                desk.say(f"keeper one {table_text(ones(many))}")
                desk.say(f"keeper other {table_text(contrary_ones(ground, many))}")
                told = [desk.say(f"{word} one") for word in ("mirrors", "moved", "count")]
                self.assertEqual(told, ["none", "none", "0"])
                self.assertEqual(desk.say("still one"), table_text(ones(many)))
                self.assertEqual(desk.say("still other"), "none")
                self.assertEqual(desk.say("moved other"), table_text(ones(many)))
                self.assertEqual(desk.say("hand one"), "1")
                self.assertEqual(desk.say("hand other"), str((-1) ** many))

    def test_known_answers(self):
        desk = self.desk(read_form("1 0 / 0 -2"), a="1 0", b="1 1")
        for row, answer in (
            ("names", "a b"), ("show a", "-1 0 / 0 1"), ("show b", "3 2 / -4 -3"), ("then c a b", "ok"),
            ("show c", "-3 -2 / -4 -3"), ("count c", "2"), ("hand c", "1"), ("hand a", "-1"), ("moved a", "1 0"),
            ("still a", "0 1"), ("moved c", "1 0 / 0 1"), ("still c", "none"), ("back d c", "ok"), ("same c d", "no"),
            ("show d", "-3 2 / 4 -3"), ("then e c d", "ok"), ("mirrors e", "none"), ("names", "a b c d e"),
            ("drop d", "ok"), ("names", "a b c e"), ("same a a", "yes"), ("moved b", "1 1"), ("still b", "1 1/2"),
            ("mirror f 1/2 -1/3", "ok"), ("show f", "-17 12 / -24 17"),
        ):
            self.assertEqual(desk.say(row), answer, row)

    def test_on_a_wheel(self):
        desk = self.desk(planes(7, 2), a="1 1", b="1 6")
        self.assertEqual(desk.say("show a"), "0 6 / 6 0")
        desk.say("then c a b")
        self.assertEqual(desk.say("show c"), "6 0 / 0 6")
        self.assertEqual(desk.say("class c"), desk.say("class c"))
        self.assertEqual(desk.say("keeper d 2 0 / 0 4"), "ok")
        self.assertEqual(desk.say("count d"), "2")

    def test_then_and_back(self):
        random = Random(291)
        for ground in GROUNDS:
            for form in sample_forms(ground):
                one, other = (made_of(form, some_mirrors(random, form, many)) for many in (2, 1))
                desk = Desk(form)
                desk.say(f"keeper a {table_text(one.table)}")
                desk.say(f"keeper b {table_text(other.table)}")
                self.assertEqual(desk.say("then c a b"), "ok")
                self.assertEqual(desk.say("show c"), table_text(one.then(other).table))
                self.assertEqual(desk.say("then c b a"), "ok")
                self.assertEqual(desk.say("show c"), table_text(other.then(one).table))
                self.assertEqual(desk.say("back d a"), "ok")
                self.assertEqual(desk.say("show d"), table_text(one.back().table))
                self.assertEqual(desk.say("then e a d"), "ok")
                self.assertEqual(desk.say("show e"), table_text(ones(len(form))))
                self.assertEqual(desk.say("show a"), table_text(one.table))
                self.assertEqual(desk.say("names"), "a b c d e")

    def test_the_same_name_at_two_places(self):
        random = Random(292)
        for ground in GROUNDS:
            for form in sample_forms(ground):
                one, other = (made_of(form, some_mirrors(random, form, 2)) for step in range(2))
                for row, expect in (
                    ("then a a a", one.then(one)), ("then a a b", one.then(other)), ("then a b a", other.then(one)),
                    ("then a b b", other.then(other)), ("back a a", one.back()), ("back a b", other.back()),
                ):
                    desk = Desk(form)
                    desk.say(f"keeper a {table_text(one.table)}")
                    desk.say(f"keeper b {table_text(other.table)}")
                    self.assertEqual(desk.say(row), "ok")
                    self.assertEqual(desk.say("show a"), table_text(expect.table))
                    self.assertEqual(desk.say("show b"), table_text(other.table))
                self.assertEqual(desk.say("same b b"), "yes")

    def test_same(self):
        random = Random(293)
        for ground in GROUNDS:
            for form in sample_forms(ground):
                one, other = some_mirrors(random, form, 2)
                desk = self.desk(form, a=row_text(one), b=row_text(other), c=row_text(one))
                alike = "yes" if rank(ground, (one, other)) == 1 else "no"
                self.assertEqual((desk.say("same a b"), desk.say("same b a")), (alike, alike))
                self.assertEqual((desk.say("same a c"), desk.say("same a a")), ("yes", "yes"))

    def test_drop(self):
        desk = self.desk(squares(5, 1), a="1", b="2", c="1")
        self.assertEqual(desk.say("drop b"), "ok")
        self.assertEqual(desk.say("names"), "a c")
        self.assert_no_name(desk, "show b", "b")
        self.assert_no_name(desk, "drop b", "b")
        self.assertEqual(desk.say("mirror b 1"), "ok")
        for name in "abc":
            self.assertEqual(desk.say(f"drop {name}"), "ok")
        self.assertEqual(desk.say("names"), "none")

    def test_one_that_moves_nothing_stands(self):
        """It is False where a truth is asked, and it stands all the same."""
        desk = Desk(squares(0, 2))
        desk.say("keeper a 1 0 / 0 1")
        for row, answer in (
            ("then b a a", "ok"), ("back c a", "ok"), ("same a c", "yes"), ("hand a", "1"), ("class a", "1"),
            ("show b", "1 0 / 0 1"), ("drop a", "ok"), ("names", "b c"),
        ):
            self.assertEqual(desk.say(row), answer)

    def test_the_same_question_again(self):
        for ground in GROUNDS:
            keeper = sample_keepers(ground)[-1]
            desk = Desk(keeper.form)
            desk.say(f"keeper a {table_text(keeper.table)}")
            first = [desk.say(f"{word} a") for word in TOLD_OF_ONE[1:]]
            desk.say("back b a")
            desk.say("then b b b")
            desk.say("drop b")
            self.assertEqual([desk.say(f"{word} a") for word in TOLD_OF_ONE[1:]], first)


class Names(Checks):
    def test_one_to_eight_letters(self):
        desk = Desk(squares(0, 1))
        for name in ("a", "z", "az", "abcdefgh", "zzzzzzzz", "qwertyui"):
            self.assertEqual(desk.say(f"mirror {name} 1"), "ok")
            self.assertEqual(desk.say(f"show {name}"), "-1")
        self.assertEqual(desk.say("names"), "a abcdefgh az qwertyui z zzzzzzzz")

    def test_names_that_are_none(self):
        desk = self.desk(squares(0, 1), a="1", b="1")
        for name in (
            "abcdefghi", "A", "aB", "Abc", "a1", "1", "a-b", "a_b", "a.", "", "a/b", "ab'", "a,", "~", "a\t", "\n",
            "a\n", "\u00e9", "\u00df", "\u0430", "a" * 9, "a" * 600,
        ):
            for row in (
                f"mirror {name} 1", f"keeper {name} 1", f"then {name} a b", f"then a {name} b", f"then a b {name}",
                f"back {name} a", f"back a {name}", f"same a {name}", f"same {name} a",
            ) + tuple(f"{word} {name}" for word in TOLD_OF_ONE):
                self.assert_refused(desk, row, NoSaying)

    def test_names_that_are_words(self):
        for word in WORDS + ("none", "ok", "yes", "no", "by", "on"):
            desk = self.desk(squares(0, 1), **{word: "1"})
            self.assertEqual(desk.say("names"), word)
            self.assertEqual(desk.say(f"then {word} {word} {word}"), "ok")
            self.assertEqual(desk.say(f"back {word} {word}"), "ok")
            self.assertEqual(desk.say(f"show {word}"), "1")
            self.assertEqual(desk.say(f"keeper {word} -1"), "ok")
            self.assertEqual(desk.say(f"same {word} {word}"), "yes")
            self.assertEqual(desk.say(f"drop {word}"), "ok")
            self.assertEqual(desk.say("names"), "none")

    def test_names_that_begin_others(self):
        desk = self.desk(squares(0, 2), abc="1 0", ab="0 1", a="1 1", abcd="1 2")
        self.assertEqual(desk.say("names"), "a ab abc abcd")
        self.assertEqual(desk.say("show ab"), "1 0 / 0 -1")
        desk.say("drop ab")
        self.assertEqual(desk.say("names"), "a abc abcd")
        self.assert_no_name(desk, "show ab", "ab")
        self.assertEqual(desk.say("show abc"), "-1 0 / 0 1")

    def test_in_order_however_put(self):
        names = ["m", "ba", "zz", "b", "a", "mm", "bab", "aa"]
        desk = Desk(squares(0, 1))
        for name in names:
            desk.say(f"mirror {name} 1")
        self.assertEqual(desk.say("names"), " ".join(sorted(names)))

    def test_forty_names(self):
        form = squares(0, 2)
        desk = Desk(form)
        names = [f"{one}{other}" for one in "abcdefgh" for other in "vwxyz"]
        for at, name in enumerate(names):
            self.assertEqual(desk.say(f"mirror {name} 1 {at}"), "ok")
        self.assertEqual(desk.say("names"), " ".join(names))
        for at, name in enumerate(names):
            self.assertEqual(desk.say(f"show {name}"), table_text(plain_made(form, [((1, 1), (at, 1))])))
        self.assertEqual(desk.say("mirror av 0 1"), "ok")
        self.assertEqual(desk.say("names"), " ".join(names))


class Refusals(Checks):
    def test_what_is_no_text(self):
        desk = self.desk(squares(0, 2), a="1 0")
        for thing in any_things() + objects() + [0, 1, ["names"], ("names",), ["show", "a"], b"names", (1, 1), desk]:
            self.assert_refused(desk, thing, NoSaying)

    def test_none_of_these_rows(self):
        desk = self.desk(squares(0, 2), a="1 0", b="1 1")
        for row in (
            "", " ", "  ", "a", "nothing", "Names", "NAMES", "names ", " names", "names a", "names  ", "show",
            "show ", "show a b", "show a ", " show a", "show  a", "Show a", "shows a", "sho a", "show\ta", "show a\n",
            "count", "count a b", "mirrors", "mirrors a b", "moved", "still", "hand", "hand a a", "same", "same a",
            "same a b a", "same a  b", "same a b ", "same  a b", "class", "class a b", "drop", "drop a b", "drop ",
            "then", "then a", "then a b", "then a b a b", "then a  b a", "then a b a ", "then  a b a", "back",
            "back a", "back a b a", "back a b ", "back  a b", "mirror", "mirror ", "mirror a", "mirror  a 1 0",
            "mirror  1 0", "keeper", "keeper ", "keeper a", "keeper  a 1 0 / 0 1", " mirror a 1 0",
            " keeper a 1 0 / 0 1", "mirrora 1 0", "mirror\ta 1 0", "mirror 1 0", "keeper 1 0 / 0 1", "mirror A 1 0",
            "keeper A 1 0 / 0 1", "a b", "ok", "none", "help", "mirror\t", "then a b a\n", "names\n", "mirrors a ",
            "still  a", "x" * 20000, " " * 20000, "names " * 3000,
        ):
            self.assert_refused(desk, row, NoSaying)

    def test_rows_that_are_none(self):
        for ground in GROUNDS:
            desk = self.desk(squares(ground, 2), a="1 0")
            for text in (
                "", " ", "1", "1 0 0", "1  0", " 1 0", "1 0 ", "1 0 1 0", "1 a", "a b", "1 +0", "01 0", "1 -0", "1/1 0",
                "2/4 0", "1 / 0", "1 0 / 0 1", "1, 0", "1,0", "(1 0)", "1.0 0", "1 0\n", "1\t0", "1/0 0", "1 0/1",
                "--1 0", "1 " + "9" * 601, "1 1/" + "9" * 601, "9" * 20000, "1 0 by 3", "None", "1 00", "0 0 /",
            ):
                self.assert_refused(desk, f"mirror a {text}", NoText)
                self.assert_refused(desk, f"mirror new {text}", NoText)

    def test_tables_that_are_none(self):
        for ground in GROUNDS:
            desk = self.desk(squares(ground, 2), a="1 0")
            for text in (
                "", " ", "1", "1 0", "1 0 / 0", "1 0 / 0 1 / 0 0", "1 0 0 / 0 1 0", "1 0/0 1", "1 0 /0 1", "1 0 / 0 1 ",
                " 1 0 / 0 1", "1 0  / 0 1", "1  0 / 0 1", "1 0 / 0 +1", "1 0 / 0 01", "1 0 / 0 2/2", "1 -0 / 0 1",
                "1 0 // 0 1", "1 0 / 0 1 on 1 0 / 0 1", "1 0 / 0 1 by 3", "1 0 | 0 1", "1 0 / 0 a", "1 0\n0 1", "1 / 0",
                "1 0 / 0 " + "9" * 601, "1 0 / / 0 1", "1/1 0 / 0 1", "1 0 / 0 1 /",
            ):
                self.assert_refused(desk, f"keeper a {text}", NoText)
                self.assert_refused(desk, f"keeper new {text}", NoText)

    def test_numbers_of_another_ground(self):
        for ground in GROUNDS[1:]:
            desk = self.desk(squares(ground, 1), a="1")
            for text in (f"{ground}", f"{ground + 1}", "-1", "1/2"):
                self.assert_refused(desk, f"mirror a {text}", NoText)
                self.assert_refused(desk, f"keeper a {text}", NoText)
            self.assertEqual(desk.say(f"keeper a {ground - 1}"), "ok")

    def test_numbers_of_many_figures(self):
        desk = Desk(squares(0, 2))
        nines = "9" * 600
        self.assertEqual(desk.say(f"mirror a {nines} 1/{nines}"), "ok")
        self.assertEqual(desk.say(f"mirror b -{nines}/2 0"), "ok")
        self.assertEqual(desk.say("show b"), "-1 0 / 0 1")
        one, other = wide_numbers(294, 2, 600)
        self.assertEqual(desk.say(f"mirror c {row_text((one, other))}"), "ok")
        desk = Desk(planes(0, 2))
        table = f"{nines} 0 / 0 1/{nines}"
        self.assertEqual(desk.say(f"keeper k {table}"), "ok")
        self.assertEqual(desk.say("show k"), table)
        self.assert_refused(desk, f"keeper k 9{nines} 0 / 0 1/9{nines}", NoText)

    def test_names_by_which_nothing_stands(self):
        desk = self.desk(squares(0, 2), a="1 0", b="1 1")
        for word in TOLD_OF_ONE:
            self.assert_no_name(desk, f"{word} x", "x")
            self.assert_no_name(desk, f"{word} aa", "aa")
        for row, name in (
            ("same x y", "x"), ("same a y", "y"), ("same x a", "x"), ("same x x", "x"), ("then c x y", "x"),
            ("then c a y", "y"), ("then c x a", "x"), ("then a x b", "x"), ("then c c c", "c"), ("then c a c", "c"),
            ("back c x", "x"), ("back c c", "c"), ("back a x", "x"), ("then x y z", "y"), ("same names show", "names"),
        ):
            self.assert_no_name(desk, row, name)
        self.assertEqual(desk.say("names"), "a b")

    def test_rows_of_worth_nought(self):
        for ground in GROUNDS:
            desk = self.desk(planes(ground, 2), a="1 1")
            for row in ("0 0", "1 0", "0 1", "0 2"):
                self.assert_refused(desk, f"mirror a {row}", NoWorth)
                self.assert_refused(desk, f"mirror new {row}", NoWorth)

    def test_tables_that_are_not_kept(self):
        for ground in GROUNDS:
            desk = self.desk(squares(ground, 2), a="1 0")
            for table, letters in (
                ("0 0 / 0 0", (0, 0)), ("1 0 / 0 0", (1, 1)), ("1 0 / 1 1", (0, 1)), ("1 0 / 1 0", (0, 1)),
            ):
                for name in ("a", "new"):
                    error = self.assert_refused(desk, f"keeper {name} {table}", NotKept)
                    self.assertEqual((error.one, error.other), letters)

    def test_which_comes_first(self):
        desk = self.desk(planes(0, 2), a="1 1")
        # No name ahead of no text.
        self.assert_refused(desk, "mirror A 1  0", NoSaying)
        self.assert_refused(desk, "keeper abcdefghi 1", NoSaying)
        # No name ahead of nothing that stands there.
        self.assert_refused(desk, "same x B", NoSaying)
        self.assert_refused(desk, "then c x 1", NoSaying)
        self.assert_refused(desk, "then C x y", NoSaying)
        self.assert_refused(desk, "back c X", NoSaying)
        # No text ahead of worth nought and of what isn't kept.
        self.assert_refused(desk, "mirror b 0", NoText)
        self.assert_refused(desk, "keeper b 0 0 / 0", NoText)
        # By the first name nothing needs to stand.
        self.assert_refused(desk, "mirror b 0 0", NoWorth)
        self.assert_refused(desk, "keeper b 0 0 / 0 0", NotKept)

    def test_what_is_refused_changes_nothing(self):
        desk = self.desk(squares(0, 2), a="1 0")
        for row in ("mirror a 0 0", "keeper a 1 1 / 1 1", "then a a x", "back a x", "mirror a 1", "drop x", "then a a"):
            self.assertIsNotNone(refused(desk, row))
            self.assertEqual(state(desk), [("a", "-1 0 / 0 1")])

    def test_other_forms(self):
        """The desk's keepers are of its own form only."""
        desk = Desk(Form(wholes(0, (1, 0), (0, -2))))
        self.assertEqual(desk.say("keeper a 3 2 / 4 3"), "ok")
        self.assert_refused(Desk(squares(0, 2)), "keeper a 3 2 / 4 3", NotKept)
        self.assertEqual(same(squares(0, 2)), Keeper(squares(0, 2), ones(2)))


if __name__ == "__main__":
    unittest.main()
