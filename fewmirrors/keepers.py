"""Keepers: tables that keep the products of a form; mirrors, and what is made of them."""

from fewmirrors.errors import NoForm, NoKeeper, NotKept, NoTable, TooMany
from fewmirrors.forms import Form, row_of_worth, undoing_table, want_list_of_rows, want_rows, want_worths
from fewmirrors.numbers import is_nought_on, lowest
from fewmirrors.tables import (
    determinant, dot, is_table, least_rows, nought_rows, plain, product, show_table, table_less, table_of_ones,
    through, whole_row, whole_table,
)

MOST_MIRRORS = 16


class Keeper:
    """A form, and a table that keeps all its products."""

    def __init__(self, form, table):
        if not isinstance(form, Form):
            raise NoForm("a keeper is one of a form")
        if not is_table(form.ground, table, len(form.table), len(form.table)):
            raise NoTable("a keeper has a table of as many rows and columns as letters")
        changed = first_changed(form, table)
        if changed is not None:
            raise NotKept(changed[0], changed[1])
        self.form = form
        self.table = table

    def __eq__(self, other):
        return isinstance(other, Keeper) and self.form == other.form and self.table == other.table

    def __len__(self):
        return len(mirror_marks(self.form, self.moved()))

    def __str__(self):
        return f"{show_table(self.table)} on {str(self.form)}"

    def __repr__(self):
        return f"Keeper({str(self)})"

    def of(self, row):
        """What the row is led to."""
        want_rows(self.form, [row])
        return through(self.form.ground, row, self.table)

    def then(self, other):
        """The keeper that does this one first, then the other."""
        if not isinstance(other, Keeper):
            raise NoKeeper("a keeper is wanted")
        if self.form != other.form:
            raise NoForm("both keepers must be of the same form")
        return Keeper(self.form, product(self.form.ground, self.table, other.table))

    def back(self):
        """The keeper that undoes this one."""
        return Keeper(self.form, undoing_table(self.form, self.table))

    def hand(self):
        if determinant(self.form.ground, self.table) == (1, 1):
            return 1
        return -1

    def moved(self):
        """The least rows of all rows less what they are led to."""
        return least_rows(self.form.ground, differences(self))

    def still(self):
        """The least rows of all rows that are led to themselves."""
        return nought_rows(self.form.ground, differences(self))


def first_changed(form, table):
    """The first two letters whose product the table changes, or None where it keeps all."""
    shape = whole_table(form.table)[0]
    rows = [whole_row(row) for row in table]
    for one, (tops, bottom) in enumerate(rows):
        led = [dot(tops, column) for column in shape]
        for other in range(one, len(rows)):
            others, under = rows[other]
            # Both sides stay whole numbers, so that no common divisor is sought.
            gap = dot(led, others) - shape[one][other] * bottom * under
            if not is_nought_on(form.ground, gap):
                return (one, other)
    return None


def differences(keeper):
    """The rows of the letters, each less what it is led to."""
    ones = table_of_ones(len(keeper.table))
    return table_less(keeper.form.ground, ones, keeper.table)


def mirror_marks(form, rows):
    """As many things as a keeper with these least rows of its moved space needs mirrors."""
    if not rows or row_of_worth(form, rows) is not None:
        return rows
    return rows + (None, None)


def same(form):
    """The keeper that moves nothing."""
    return Keeper(form, table_of_ones(len(form.table)))


def mirror(form, row):
    want_rows(form, [row])
    want_worths(form, [row])
    return Keeper(form, mirrors_table(form, [row]))


def made_of(form, rows):
    """The keeper that does the mirrors by these rows one after another, from the first."""
    want_mirrors(form, rows)
    return Keeper(form, mirrors_table(form, rows))


def want_mirrors(form, thing):
    want_list_of_rows(form, thing)
    if len(thing) > MOST_MIRRORS:
        raise TooMany("a row of mirrors has at most sixteen")
    want_worths(form, thing)


def mirrors_table(form, rows):
    tops, bottom = whole_mirrors(form, rows)
    return tuple([tuple([lowest(form.ground, x, bottom) for x in line]) for line in tops])


def is_made_of(form, table, rows):
    """Whether the table is what the mirrors by these rows make."""
    tops, bottom = whole_mirrors(form, rows)
    # Both sides stay whole numbers, so that no common divisor is sought.
    gaps = [x * y[1] - y[0] * bottom for line, row in zip(tops, table) for x, y in zip(line, row)]
    return all([is_nought_on(form.ground, gap) for gap in gaps])


def whole_mirrors(form, rows):
    """The table that the mirrors by these rows make, as whole numbers over one bottom."""
    # A multiple of a row, or of the form's table, has the same mirror: so both are taken as whole
    # numbers, and the product of the worths is the one bottom of all that comes.
    shape = whole_table(form.table)[0]
    tops = whole_table(table_of_ones(len(shape)))[0]
    bottom = 1
    for row in rows:
        by = plain(form.ground, whole_row(row)[0])
        led = [dot(by, column) for column in shape]
        worth = dot(by, led)
        tops = [mirrored(line, by, led, worth) for line in tops]
        bottom *= worth
    return (tops, bottom)


def mirrored(line, by, led, worth):
    """The worth of the row by, times what its mirror leads the line to; led is the row by put through the form."""
    twice = 2 * dot(line, led)
    return [x * worth - twice * y for x, y in zip(line, by)]
