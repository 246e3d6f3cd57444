"""Seat products: what a keeper's moved space tells of its keeper."""

from fewmirrors.errors import NoSeat
from fewmirrors.forms import products, want_tuple_of_rows
from fewmirrors.keepers import Keeper, differences, same
from fewmirrors.numbers import number
from fewmirrors.tables import (
    back, beside_ones, determinant, is_all_nought, is_table, least_rows, product, table_less, table_of_ones,
    table_plus, table_times, turned,
)


def seats_of(keeper):
    """The least rows of the moved space, and the table of their seat products."""
    ground = keeper.form.ground
    many = len(keeper.table)
    # Each is, left, a row that comes as the right one less what that is led to; the left ones are least rows.
    pairs = [row for row in beside_ones(ground, differences(keeper)) if not is_all_nought(row[:many])]
    if not pairs:
        return ((), ())
    rows = tuple([row[:many] for row in pairs])
    origins = tuple([row[many:] for row in pairs])
    return (rows, twice(ground, products(keeper.form, origins, rows)))


def twice(ground, table):
    return table_times(ground, table, number(ground, 2))


def keeper_of(form, rows, seats):
    """The one keeper that moves the space that the rows span, with these as seat products."""
    want_tuple_of_rows(form, rows)
    if not are_seats(form, rows, seats):
        raise NoSeat("these rows are no moved space with such seat products")
    if not rows:
        return same(form)
    ground = form.ground
    # A row x less the sum of the rows, each times its number of a row c, is what x is led to; c put
    # through the seats comes to twice the products of x with the rows.
    factors = product(ground, products(form, table_of_ones(len(form.table)), rows), back(ground, seats))
    moves = product(ground, twice(ground, factors), rows)
    return Keeper(form, table_less(ground, table_of_ones(len(form.table)), moves))


def are_seats(form, rows, thing):
    many = len(rows)
    if many == 0:
        return isinstance(thing, tuple) and len(thing) == 0
    ground = form.ground
    if many > len(form.table) or not is_table(ground, thing, many, many):
        return False
    if len(least_rows(ground, rows)) < many or determinant(ground, thing)[0] == 0:
        return False
    return table_plus(ground, thing, turned(thing)) == twice(ground, products(form, rows, rows))
