"""Contrary tables: tables that turned are their contrary, and the keepers that they tell."""

from fewmirrors.errors import NoTable
from fewmirrors.forms import products, worth_of
from fewmirrors.keepers import Keeper, differences
from fewmirrors.numbers import number, plus, times
from fewmirrors.tables import (
    back, determinant, is_table, product, table_less, table_of_ones, table_plus, table_times, turned,
)


def contrary_of(keeper):
    """The contrary table of a keeper that sends no row but noughts to its contrary."""
    ground = keeper.form.ground
    sums = table_plus(ground, table_of_ones(len(keeper.table)), keeper.table)
    return product(ground, product(ground, differences(keeper), back(ground, sums)), keeper.form.table)


def keeper_by(form, table):
    """The keeper whose contrary table this is."""
    if not is_contrary(form, table):
        raise NoTable("a table of as many rows as letters that turned is its contrary is wanted")
    ground = form.ground
    # The back of the form's table, times it, stands between 1 - C and the back of 1 + C: so both are left out.
    sums = table_plus(ground, form.table, table)
    return Keeper(form, product(ground, table_less(ground, form.table, table), back(ground, sums)))


def is_contrary(form, thing):
    many = len(form.table)
    if not is_table(form.ground, thing, many, many):
        return False
    return turned(thing) == table_times(form.ground, thing, number(form.ground, -1))


def signs_for(keeper):
    """Signs of the frame's rows; behind the mirrors of sign -1 the keeper has a contrary table."""
    form = keeper.form
    frame = form.frame()
    worths = [worth_of(form, row) for row in frame]
    # The keeper told by the frame's rows, each column times the worth of its row.
    table = products(form, product(form.ground, frame, keeper.table), frame)
    signs = ()
    for step in range(len(frame)):
        signs = signs + (next_sign(form.ground, table, worths, signs),)
    return signs


def next_sign(ground, table, worths, signs):
    # With one sign and with the other the corner's determinants differ by twice the worth times that
    # of the corner before, which isn't nought: so one of the two isn't.
    if determinant(ground, signed_corner(ground, table, worths, signs + (1,)))[0] != 0:
        return 1
    return -1


def signed_corner(ground, table, worths, signs):
    """The table's first corner, as wide as there are signs, with the signed worths put in from corner to corner."""
    many = len(signs)
    rows = []
    for at, sign in enumerate(signs):
        x = plus(ground, table[at][at], times(ground, worths[at], number(ground, sign)))
        rows.append(table[at][:at] + (x,) + table[at][at + 1:many])
    return tuple(rows)
