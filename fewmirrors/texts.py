"""Texts of numbers, rows and tables, of forms and keepers, read back."""

from fewmirrors.errors import NoText
from fewmirrors.forms import Form, is_form_table
from fewmirrors.keepers import Keeper, first_changed
from fewmirrors.numbers import show_number
from fewmirrors.tables import is_row, is_table

MOST_FIGURES = 600
WHEELS = {"3": 3, "5": 5, "7": 7, "11": 11, "13": 13}


def read_form(text):
    form = form_or_none(text) if isinstance(text, str) else None
    if form is None:
        raise NoText("the text of a form is wanted")
    return form


def read_keeper(text):
    keeper = keeper_or_none(text) if isinstance(text, str) else None
    if keeper is None:
        raise NoText("the text of a keeper is wanted")
    return keeper


def form_or_none(text):
    before, by, wheel = text.partition(" by ")
    ground = WHEELS.get(wheel) if by else 0
    table = table_parts(before)
    if ground is None or not is_form_table(ground, table):
        return None
    return Form(table, ground)


def keeper_or_none(text):
    before, on, behind = text.partition(" on ")
    form = form_or_none(behind)
    if form is None:
        return None
    table = table_or_none(form, before)
    if table is None or first_changed(form, table) is not None:
        return None
    return Keeper(form, table)


def table_or_none(form, text):
    """The table, as high and wide as the form's, that is written so."""
    table = table_parts(text)
    if not is_table(form.ground, table, len(form.table), len(form.table)):
        return None
    return table


def row_or_none(form, text):
    """The row of as many numbers as the form has letters that is written so."""
    row = row_parts(text)
    if not is_row(form.ground, row, len(form.table)):
        return None
    return row


def table_parts(text):
    """What may be a table: its rows may be unlike in length, and None stands where no number's text does."""
    return tuple([row_parts(part) for part in text.split(" / ")])


def row_parts(text):
    return tuple([number_part(word) for word in text.split(" ")])


def number_part(word):
    """The two whole numbers that a word writes as a number, perhaps not in lowest terms, or None."""
    top, over, bottom = word.removeprefix("-").partition("/")
    if not over:
        bottom = "1"
    if not are_figures(top) or not are_figures(bottom):
        return None
    x = (int(top), int(bottom))
    if word.startswith("-"):
        x = (-x[0], x[1])
    # Written otherwise, as with noughts ahead, a number is no number's text.
    if show_number(x) != word:
        return None
    return x


def are_figures(text):
    return len(text) <= MOST_FIGURES and text.isascii() and text.isdigit()
