"""Texts of forms and keepers, read back; what is no such text."""

import unittest
from random import Random

from fewmirrors.errors import MirrorError, NoText
from fewmirrors.forms import Form
from fewmirrors.keepers import Keeper, made_of, mirror, same
from fewmirrors.texts import read_form, read_keeper
from tests.helper import (
    GROUNDS, WHEELS, any_things, objects, ones, planes, refusal, sample_forms, sample_keepers, some_mirrors, squares,
    wholes, wide_numbers,
)

SIGNS = "".join(chr(code) for code in range(32, 127) if code != 37)


def plain_number(x):
    return str(x[0]) if x[1] == 1 else f"{x[0]}/{x[1]}"


def plain_table(table):
    return " / ".join(" ".join(plain_number(x) for x in row) for row in table)


def plain_form(form):
    return plain_table(form.table) + (f" by {form.ground}" if form.ground else "")


def plain_keeper(keeper):
    return f"{plain_table(keeper.table)} on {plain_form(keeper.form)}"


def changed_texts(random, text, many):
    """The text with a sign put in, left out, put otherwise, or two signs exchanged."""
    told = []
    for step in range(many):
        at = random.randrange(len(text))
        sign = random.choice(SIGNS if step % 3 == 0 else "0123456789-/ +onby.")
        told += [text[:at] + sign + text[at:], text[:at] + text[at + 1:], text[:at] + sign + text[at + 1:]]
        told.append(text[:at] + text[at:at + 2][::-1] + text[at + 2:])
    return told


class Checks(unittest.TestCase):
    def assert_form_or_refusal(self, text):
        """Whatever is read, its text is just the text."""
        try:
            form = read_form(text)
        except MirrorError as error:
            self.assertIs(type(error), NoText, text)
            return False
        self.assertIs(type(form), Form)
        self.assertEqual(plain_form(form), text)
        return True

    def assert_keeper_or_refusal(self, text):
        try:
            keeper = read_keeper(text)
        except MirrorError as error:
            self.assertIs(type(error), NoText, text)
            return False
        self.assertIs(type(keeper), Keeper)
        self.assertEqual(plain_keeper(keeper), text)
        return True

    def assert_no_form(self, *texts):
        for text in texts:
            self.assertIs(refusal(read_form, text), NoText, text)
            self.assertIs(refusal(read_keeper, text), NoText, text)
            if isinstance(text, str):
                self.assertIs(refusal(read_keeper, "1 on " + text), NoText, text)

    def assert_no_keeper(self, *texts):
        for text in texts:
            self.assertIs(refusal(read_keeper, text), NoText, text)


class Forms(Checks):
    def test_read_back(self):
        for ground in GROUNDS:
            for form in sample_forms(ground):
                for text in (plain_form(form), str(form)):
                    told = read_form(text=text)
                    self.assertIs(type(told), Form)
                    self.assertEqual((told.table, told.ground), (form.table, ground))
                    self.assertEqual(told, form)
                self.assertIs(refusal(read_keeper, str(form)), NoText)

    def test_known_ones(self):
        self.assertEqual(read_form("1"), squares(0, 1))
        self.assertEqual(read_form("-2"), Form(wholes(0, (-2,))))
        self.assertEqual(read_form("1/2"), Form(wholes(0, ("1/2",))))
        self.assertEqual(read_form("-10/7"), Form(wholes(0, ("-10/7",))))
        self.assertEqual(read_form("1 0 / 0 1"), squares(0, 2))
        self.assertEqual(read_form("0 1 / 1 0 by 13"), planes(13, 2))
        self.assertEqual(read_form("12 by 13"), Form(wholes(13, (12,)), 13))

    def test_numbers_written_otherwise(self):
        self.assert_no_form(
            "+1", "01", "1/1", "2/4", "1/02", "01/2", "-01", "--1", "1/-2", "-1/-2", "1/0", "0/1", "-", "/", "1/", "/1",
            "1//2", "1/2/3", "1.0", "1e3", "1_0", "0x1", "one", "1 /2", "1/ 2", "- 1", "1,0", "(1)", "1-", "1-1", "1+1",
            "1\t", "1\n", "\n1", "3/6", "10/5", "-0", "0", "-0/1", "00", "½", "²", "١", "１", "1\u00a0",
        )
        # The same where nought is no number's fault: it stands in a form with other numbers.
        self.assertIs(self.assert_form_or_refusal("0 1 / 1 0"), True)
        self.assert_no_form("-0 1 / 1 0", "00 1 / 1 0", "0/1 1 / 1 0", "0 1 / 1 -0", "+0 1 / 1 0", "0/2 1 / 1 0")

    def test_numbers_of_a_wheel(self):
        for wheel in WHEELS:
            for whole in range(1, wheel):
                self.assertEqual(read_form(f"{whole} by {wheel}"), Form((((whole, 1),),), wheel))
            self.assert_no_form(f"{wheel} by {wheel}", f"{wheel + 1} by {wheel}", f"-1 by {wheel}", f"1/2 by {wheel}")
            self.assert_no_form(f"0 by {wheel}", f"01 by {wheel}", f"1/1 by {wheel}", f"+1 by {wheel}")
            self.assert_no_form(f"1 by 0{wheel}", f"1 by +{wheel}", f"1 by {wheel}/1", f"1 by -{wheel}")

    def test_blanks_and_strokes(self):
        self.assert_no_form(
            "", " ", "  ", " 1", "1 ", "1  0 / 0 1", "1 0  / 0 1", "1 0 /  0 1", "1 0/ 0 1", "1 0 /0 1", "1 0/0 1",
            "1 0 / 0 1 ", " 1 0 / 0 1", "1 0 / 0  1", "1 0 / / 0 1", "1 0 // 0 1", "1 0 / 0 1 /", "1 0 / 0 1 / ", "/ 1",
            " / 1", "1 / ", "1 0 , 0 1", "1 0 | 0 1", "1 0\n0 1", "1 0 / 0 1/",
        )

    def test_grounds_written_otherwise(self):
        for text in (
            "1 by 0", "1 by 1", "1 by 2", "1 by 4", "1 by 6", "1 by 9", "1 by 17", "1 by", "1 by ", "1by 3", "1 by3",
            "1 by 3 ", "1  by 3", "1 by  3", " by 3", "by 3", "1 by 3 by 3", "1 by 3 by 5", "1 By 3", "1 by three",
            "1 by -3", "1 by 3/1", "1 by 33", "1 by 03", " by ", "1 on 3",
        ):
            self.assertIs(refusal(read_form, text), NoText, text)

    def test_no_forms(self):
        """Tables that no form has."""
        self.assert_no_form(
            "1 0", "1 0 / 0", "1 / 0 1", "1 0 / 0 1 / 0 0", "1 / 1", "1 1 / 1 1", "0 1 / -1 0", "1 2 / 3 4",
            "0 0 / 0 0", "1 0 / 0 1 1", "1 2 / 2 4", "2 1 / 1 2 by 3", plain_table(ones(6)),
            f"{plain_table(ones(5))} by 3",
        )
        self.assertIs(self.assert_form_or_refusal(plain_table(ones(5))), True)
        self.assertIs(self.assert_form_or_refusal(f"{plain_table(ones(4))} by 3"), True)

    def test_figures(self):
        for figures in (599, 600):
            nines, ones_ = "9" * figures, "1" + "0" * (figures - 1)
            for text in (nines, "-" + nines, f"1/{nines}", f"-1/{ones_}", f"{nines}/{ones_}", f"{ones_}/{nines}"):
                self.assertIs(self.assert_form_or_refusal(text), True)
        nines, ones_ = "9" * 601, "1" + "0" * 600
        for text in (nines, "-" + nines, f"1/{nines}", f"-1/{ones_}", f"{nines}/{ones_}", f"{ones_}/{nines}"):
            self.assertIs(refusal(read_form, text), NoText)
            self.assertIs(refusal(read_keeper, f"1 on {text}"), NoText)
        self.assert_no_form("9" * 4300, "9" * 4301, "9" * 20000, "-" + "1" * 19999, "1/" + "3" * 19998, "0" * 20000)
        self.assert_no_form("1" * 601 + " by 3", "1 by " + "3" * 601, "0" * 601 + "1")

    def test_long_texts(self):
        """Twenty-five numbers of six hundred figures are more signs than any other text has."""
        numbers = wide_numbers(280, 15, 600)
        places = [(one, other) for one in range(5) for other in range(one, 5)]
        by = dict(zip(places, numbers))
        form = Form(tuple(tuple(by[min(at, to), max(at, to)] for to in range(5)) for at in range(5)))
        self.assertGreater(len(plain_form(form)), 25000)
        self.assertEqual(read_form(plain_form(form)), form)

    def test_any_things(self):
        # Among any things the text 3 is a form's.
        self.assert_no_form(*[thing for thing in any_things() if thing != "3"], *objects())
        self.assert_no_form(0, 1, (1, 1), ["1"], ("1",), b"1", "a" * 20000, "1 " * 10000)
        self.assert_no_form("1 / " * 5000, "/" * 20000, " " * 20000, "1 by 3" * 3000, " on " * 5000, "-" * 20000)

    def test_one_sign_otherwise(self):
        random = Random(281)
        read = 0
        for ground in GROUNDS:
            for form in sample_forms(ground):
                for text in changed_texts(random, plain_form(form), 25):
                    read += self.assert_form_or_refusal(text)
        self.assertGreater(read, 100)


class Keepers(Checks):
    def test_read_back(self):
        for ground in GROUNDS:
            for keeper in sample_keepers(ground):
                told = read_keeper(text=plain_keeper(keeper))
                self.assertEqual((told.table, told.form.table, told.form.ground), (
                    keeper.table, keeper.form.table, ground,
                ))
                self.assertEqual(read_keeper(str(keeper)), keeper)
                self.assertIs(refusal(read_form, str(keeper)), NoText)

    def test_known_ones(self):
        self.assertEqual(read_keeper("-1 on 1"), mirror(squares(0, 1), ones(1)[0]))
        self.assertEqual(read_keeper("1 0 / 0 1 on 0 1 / 1 0 by 7"), same(planes(7, 2)))
        turn = Keeper(squares(0, 2), wholes(0, ("3/5", "4/5"), ("-4/5", "3/5")))
        self.assertEqual(read_keeper("3/5 4/5 / -4/5 3/5 on 1 0 / 0 1"), turn)

    def test_written_otherwise(self):
        self.assertIs(self.assert_keeper_or_refusal("-1 on 1"), True)
        self.assert_no_keeper(
            "", " ", "1", "-1", "on", " on ", "1 on ", " on 1", "1 on", "on 1", "1on 1", "1 on1", "1  on 1", "1 on  1",
            " 1 on 1", "1 on 1 ", "1 on 1 on 1", "1 On 1", "1 in 1", "+1 on 1", "01 on 1", "1/1 on 1", "2/2 on 1",
            "1 on +1", "1 on 2/2", "1 on 01", "-1/1 on 1", "1 on 0", "1 on 1 by 4", "1 by 3 on 1", "1 by 3 on 1 by 3",
            "1 on 1 by 03", "1 / on 1", "1 on 1 /", "1,1 on 1", "1 on 1\n", "1\non 1", "1 on -0", "None", "1 by 3",
        )

    def test_not_kept(self):
        self.assert_no_keeper(
            "2 on 1", "0 on 1", "1/2 on 1", "1 0 / 0 2 on 1 0 / 0 1", "1 1 / 0 1 on 1 0 / 0 1",
            "0 0 / 0 0 on 1 0 / 0 1", "2 on 1 by 5", "3 on 1 by 3", "-1 on 1 by 3", "5/3 4/3 / 4/3 5/3 on 1 0 / 0 1",
        )
        self.assertIs(self.assert_keeper_or_refusal("5/3 4/3 / 4/3 5/3 on 1 0 / 0 -1"), True)
        self.assertIs(self.assert_keeper_or_refusal("2 on 1 by 3"), True)

    def test_sizes(self):
        self.assert_no_keeper(
            "1 on 1 0 / 0 1", "1 0 / 0 1 on 1", "1 0 on 1 0 / 0 1", "1 / 0 on 1 0 / 0 1",
            "1 0 / 0 1 / 0 0 on 1 0 / 0 1", "1 0 0 / 0 1 0 on 1 0 / 0 1", "1 0 / 0 on 1 0 / 0 1",
            "1 0 / 0 1 on 1 0 / 0 1 / 0 0", "1 0 / 0 1 on 1 1 / 1 1",
            f"{plain_table(ones(6))} on {plain_table(ones(6))}",
            f"{plain_table(ones(5))} on {plain_table(ones(5))} by 3",
        )

    def test_numbers_of_another_ground(self):
        for wheel in WHEELS:
            self.assert_no_keeper(f"{wheel + 1} on 1 by {wheel}", f"-1 on 1 by {wheel}", f"1/2 on 1 by {wheel}")
            self.assertIs(self.assert_keeper_or_refusal(f"{wheel - 1} on 1 by {wheel}"), True)
        self.assert_no_keeper("2 on 1", "4 on 1")

    def test_figures(self):
        nines, more = "9" * 600, "9" * 601
        self.assertIs(self.assert_keeper_or_refusal(f"{nines} 0 / 0 1/{nines} on 0 1 / 1 0"), True)
        self.assert_no_keeper(f"{more} 0 / 0 1/{more} on 0 1 / 1 0", f"0 {more} / 1/{more} 0 on 0 1 / 1 0")
        self.assertIs(self.assert_keeper_or_refusal(f"1 on {nines}"), True)
        self.assert_no_keeper(f"1 on {more}", f"{more} on 1", "9" * 20000 + " on 1", "1 on " + "9" * 20000)

    def test_many_figures(self):
        one, other = wide_numbers(282, 2, 140)
        keeper = made_of(squares(0, 2), [(one, other)])
        self.assertEqual(read_keeper(str(keeper)), keeper)

    def test_any_things(self):
        self.assert_no_keeper(*any_things(), *objects(), 0, 1, ["1 on 1"], ("1 on 1",), b"1 on 1", (1, 1))

    def test_one_sign_otherwise(self):
        random = Random(283)
        for ground in GROUNDS:
            for keeper in sample_keepers(ground)[::3]:
                for text in changed_texts(random, plain_keeper(keeper), 8):
                    self.assert_keeper_or_refusal(text)

    def test_other_forms_and_grounds(self):
        random = Random(284)
        for ground in GROUNDS:
            for form in sample_forms(ground):
                table = plain_table(made_of(form, some_mirrors(random, form, 2)).table)
                for other in sample_forms(0) + sample_forms(3) + sample_forms(7):
                    self.assert_keeper_or_refusal(f"{table} on {plain_form(other)}")


if __name__ == "__main__":
    unittest.main()
