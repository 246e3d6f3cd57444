"""Numbers of four parts, and the keepers of three and of four squares that they tell."""

from fewmirrors.errors import NoForm, NoFour, NoKeeper
from fewmirrors.forms import Form
from fewmirrors.keepers import Keeper
from fewmirrors.numbers import number, over
from fewmirrors.tables import (
    head_of, is_all_nought, is_row, plain_row, product, row_times, table_of_ones, through, turned,
)


def four_times(ground, one, other):
    return through(ground, other, times_units(ground, one))


def times_units(ground, four):
    """The four times 1, i, j and k."""
    a, b, c, d = four
    less_b, less_c, less_d = row_times(ground, (b, c, d), number(ground, -1))
    return ((a, b, c, d), (less_b, a, d, less_c), (less_c, less_d, a, b), (less_d, c, less_b, a))


def norm_of(ground, four):
    return sum_of_products(ground, four, four)


def sum_of_products(ground, row, other):
    return product(ground, (row,), turned((other,)))[0][0]


def contrary_four(ground, four):
    return four[:1] + row_times(ground, four[1:], number(ground, -1))


def is_four_of_norm(ground, thing):
    return is_row(ground, thing, 4) and norm_of(ground, thing)[0] != 0


def turn_of(ground, four):
    """The keeper of three squares that a four tells."""
    if not is_four_of_norm(ground, four):
        raise NoFour("a four of norm other than nought is wanted")
    # A multiple has the same turn: so the one of the smallest numbers is taken.
    small = plain_row(ground, four)
    table = double_table(ground, small, contrary_four(ground, small))
    # A turn leaves the first part alone: it moves the other three only.
    return Keeper(Form(table_of_ones(3), ground), tuple([row[1:] for row in table[1:]]))


def double_table(ground, one, other):
    """The rows of 1, i, j and k, each put between the two fours, over the norm of the first."""
    part = over(ground, (1, 1), norm_of(ground, one))
    return tuple([row_times(ground, four_times(ground, row, other), part) for row in times_units(ground, one)])


def double_turn(ground, one, other):
    """The keeper of four squares that two fours of one norm tell."""
    if not is_four_of_norm(ground, one) or not is_four_of_norm(ground, other):
        raise NoFour("two fours of norms other than nought are wanted")
    if norm_of(ground, one) != norm_of(ground, other):
        raise NoFour("two fours of one norm are wanted")
    return Keeper(Form(table_of_ones(4), ground), double_table(ground, one, other))


def four_of(keeper):
    """A four whose turn the keeper is."""
    want_squares(keeper, 3)
    ground = keeper.form.ground
    # With the first part left alone the turn is a double one, by the four and its contrary.
    below = tuple([((0, 1),) + row for row in keeper.table])
    shares = shares_of(ground, table_of_ones(4)[:1] + below)
    # Each column is a multiple of the four.
    return plain_row(ground, first_with_numbers(turned(shares)))


def pair_of(keeper):
    """Two fours of one norm whose double turn the keeper is."""
    want_squares(keeper, 4)
    ground = keeper.form.ground
    shares = shares_of(ground, keeper.table)
    # Each row is a multiple of the second four, each column one of the first.
    row = first_with_numbers(shares)
    place = head_of(row)
    # The number where row and column cross tells by which factor the column comes to the row's norm.
    factor = over(ground, norm_of(ground, row), row[place])
    # Both times one number are such a pair again: so the one of the smallest numbers is told.
    both = plain_row(ground, row_times(ground, turned(shares)[place], factor) + row)
    return (both[:4], both[4:])


def want_squares(keeper, many):
    if keeper.form.table != table_of_ones(many):
        raise NoForm(f"a keeper of {many} squares is wanted")
    if keeper.hand() != 1:
        raise NoKeeper("a keeper of hand 1 is wanted")


def first_with_numbers(rows):
    """The first row that isn't all noughts."""
    return [row for row in rows if not is_all_nought(row)][0]


def shares_of(ground, table):
    """By which numbers the table is a sum of tables that put rows between two of 1, i, j and k.

    One by row, the other by column: of a double turn they are the products of the parts of the
    two fours, over the norm.
    """
    units = table_of_ones(4)
    between = tuple([flattened(double_table(ground, one, other)) for one in units for other in units])
    sums = product(ground, (flattened(table),), turned(between))[0]
    # Of these sixteen tables each has the sum of products 4 with itself, and nought with each other one.
    shares = row_times(ground, sums, number(ground, 1, 4))
    return tuple([shares[at:at + 4] for at in range(0, 16, 4)])


def flattened(table):
    return tuple([x for row in table for x in row])
