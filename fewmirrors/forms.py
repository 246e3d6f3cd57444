"""Forms: of each row of numbers they tell a worth, of each two rows a product."""

from fewmirrors.errors import NoForm, NoGround, NoRow, NoWorth
from fewmirrors.numbers import is_ground
from fewmirrors.tables import (
    back, determinant, is_row, is_table, least_rows, nought_rows, product, row_plus, show_table, table_of_ones,
    turned,
)

MOST_LETTERS = 5
MOST_LETTERS_ON_A_WHEEL = 4


class Form:
    """A ground, and a table that turned is itself and isn't flat."""

    def __init__(self, table, ground=0):
        if not is_ground(ground):
            raise NoGround("a ground is 0, 3, 5, 7, 11 or 13")
        if not is_form_table(ground, table):
            raise NoForm("a form has a table of few letters that turned is itself and isn't flat")
        self.table = table
        self.ground = ground

    def __eq__(self, other):
        return isinstance(other, Form) and self.ground == other.ground and self.table == other.table

    def __len__(self):
        return len(self.table)

    def __str__(self):
        if self.ground == 0:
            return f"{show_table(self.table)}"
        return f"{show_table(self.table)} by {self.ground}"

    def __repr__(self):
        return f"Form({str(self)})"

    def worth(self, row):
        want_rows(self, [row])
        return worth_of(self, row)

    def pair(self, row, other):
        want_rows(self, [row, other])
        return products(self, (row,), (other,))[0][0]

    def upright(self, rows):
        """The least rows of all rows upright to these."""
        want_tuple_of_rows(self, rows)
        return upright_rows(self, rows)

    def frame(self):
        """As many rows as letters, two by two upright, of worths other than nought."""
        found = ()
        space = table_of_ones(len(self.table))
        while space:
            # What is upright to a frame's rows holds no row upright to all of itself: so one has a worth.
            found = found + (row_of_worth(self, space),)
            space = upright_rows(self, found)
        return found


def is_form_table(ground, thing):
    if not isinstance(thing, tuple):
        return False
    many = len(thing)
    most = MOST_LETTERS if ground == 0 else MOST_LETTERS_ON_A_WHEEL
    if not 1 <= many <= most or not is_table(ground, thing, many, many):
        return False
    return turned(thing) == thing and determinant(ground, thing)[0] != 0


def want_rows(form, things):
    for thing in things:
        if not is_row(form.ground, thing, len(form.table)):
            raise NoRow("a row of as many numbers as letters is wanted")


def want_tuple_of_rows(form, thing):
    if not isinstance(thing, tuple):
        raise NoRow("a tuple of rows is wanted")
    want_rows(form, thing)


def want_list_of_rows(form, thing):
    if not isinstance(thing, list):
        raise NoRow("a list of rows is wanted")
    want_rows(form, thing)


def want_worths(form, rows):
    for row in rows:
        if worth_of(form, row)[0] == 0:
            raise NoWorth("a row of worth other than nought is wanted")


def products(form, rows, others):
    """The products of rows, one at least, with others, one at least, as a table."""
    return product(form.ground, product(form.ground, rows, form.table), turned(others))


def worth_of(form, row):
    return products(form, (row,), (row,))[0][0]


def undoing_table(form, table):
    """What undoes a table that keeps all products of the form."""
    # The form's table has most often by far the smaller numbers, so its back is sought instead.
    return product(form.ground, product(form.ground, form.table, turned(table)), back(form.ground, form.table))


def upright_rows(form, rows):
    least = least_rows(form.ground, rows)
    if not least:
        return table_of_ones(len(form.table))
    return nought_rows(form.ground, product(form.ground, form.table, turned(least)))


def row_of_worth(form, rows):
    """A row of worth other than nought that the rows, one at least, span, or None where there is none."""
    table = products(form, rows, rows)
    for place, row in enumerate(rows):
        if table[place][place][0] != 0:
            return row
    for place, row in enumerate(rows):
        for at in range(place):
            if table[place][at][0] != 0:
                # Both have worth nought: their sum has twice their product as its worth.
                return row_plus(form.ground, rows[at], row)
    return None
