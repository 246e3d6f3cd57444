"""The fewest mirrors that make a keeper.

A moved space is taken here as some rows that span it, none of which the others span, with the
table of their seat products. A first mirror u of the space leaves behind a keeper that moves
just the rows v whose seat product with u (v by row, u by column) is nought, with the same seat
products. So least rows of mirrors are found within the space, and no keeper is made on the way.
"""

from fewmirrors.forms import products, row_of_worth, want_rows, want_worths, worth_of
from fewmirrors.numbers import less, number, over, plus, times
from fewmirrors.seats import seats_of, twice
from fewmirrors.tables import head_of, plain_row, product, row_less, row_times, table_of_ones, through, turned


def least_count(keeper):
    return len(keeper)


def mirrors_of(keeper):
    """A row of as many mirrors as the least count that the keeper is made of."""
    rows, seats = seats_of(keeper)
    if is_bare_or_has_worth(keeper.form.ground, seats):
        return least_mirrors(keeper.form.ground, rows, seats)
    first = row_of_worth(keeper.form, table_of_ones(len(keeper.table)))
    return begun_outside(keeper.form, rows, seats, first)


def begun_by(keeper, row):
    """A least row of mirrors with this one first, or None where there is none."""
    want_rows(keeper.form, [row])
    want_worths(keeper.form, [row])
    rows, seats = seats_of(keeper)
    if not rows:
        return None
    if is_bare_or_has_worth(keeper.form.ground, seats):
        return begun_inside(keeper.form.ground, rows, seats, row)
    return begun_outside(keeper.form, rows, seats, row)


def is_bare_or_has_worth(ground, seats):
    """Whether nothing is moved, or some row that is moved has a worth other than nought."""
    many = len(seats)
    # A seat product and the one the other way about come together to twice the product.
    sums = [plus(ground, seats[one][other], seats[other][one]) for one in range(many) for other in range(many)]
    return many == 0 or any([x[0] != 0 for x in sums])


def begun_inside(ground, rows, seats, first):
    """Where some row moved has a worth: then each mirror of a least row is by a moved row."""
    factors = factors_of(ground, rows, first)
    if factors is None:
        return None
    rows, seats = left_behind(ground, rows, seats, factors)
    if not is_bare_or_has_worth(ground, seats):
        return None
    return [first] + least_mirrors(ground, rows, seats)


def factors_of(ground, rows, row):
    """The numbers by which the least rows come together to the row, or None where they don't span it."""
    # At a head the other least rows have noughts: so the row's number there is the one of that least row.
    factors = tuple([row[head_of(least)] for least in rows])
    if through(ground, factors, rows) != row:
        return None
    return factors


def begun_outside(form, rows, seats, first):
    """Where all rows moved have worth nought: then any first mirror leaves a space of one letter more.

    That space is spanned by the mirror's row and those moved before; the seat products of these
    with the mirror's row are nought, so those the other way about are twice the products.
    """
    ground = form.ground
    above = (worth_of(form, first),) + twice(ground, products(form, (first,), rows))[0]
    below = tuple([((0, 1),) + line for line in seats])
    return [first] + least_mirrors(ground, (first,) + rows, (above,) + below)


def least_mirrors(ground, rows, seats):
    """As many mirrors as rows; the space is bare or has a row of worth other than nought."""
    found = []
    while rows:
        factors = good_begin(ground, rows, seats)
        # A multiple has the same mirror: so the row told may be the one of the smallest numbers.
        found.append(plain_row(ground, through(ground, factors, rows)))
        rows, seats = left_behind(ground, rows, seats, factors)
    return found


def good_begin(ground, rows, seats):
    """Factors of a row that leaves behind a bare space, or one with a row of worth other than nought."""
    # Only in a space of three letters may a row of worth leave none of worth behind, and there
    # just the rows of two lines at most do; so one of these few factors is good.
    choices = small_factors(ground, len(rows))
    at = 0
    while not is_good_begin(ground, rows, seats, choices[at]):
        at += 1
    return choices[at]


def is_good_begin(ground, rows, seats, factors):
    if seat_worth(ground, seats, factors)[0] == 0:
        return False
    return is_bare_or_has_worth(ground, left_behind(ground, rows, seats, factors)[1])


def small_factors(ground, many):
    """All rows of noughts, ones and contrary ones that begin with a one, those of most noughts first."""
    found = [()]
    signs = (number(ground, 0), number(ground, 1), number(ground, -1))
    for step in range(many):
        found = [row + (sign,) for row in found for sign in signs]
    ahead = [row for row in found if [x for x in row if x[0] != 0][:1] == [(1, 1)]]
    return sorted(ahead, key=lambda row: len([x for x in row if x[0] != 0]))


def seat_worth(ground, seats, factors):
    """The seat product of the row of these factors with itself, which is its worth."""
    return product(ground, (through(ground, factors, seats),), turned((factors,)))[0][0]


def left_behind(ground, rows, seats, factors):
    """Rows and seat products of what is moved behind a first mirror, by the row of these factors."""
    first = through(ground, factors, rows)
    before = through(ground, factors, turned(seats))
    behind = through(ground, factors, seats)
    worth = seat_worth(ground, seats, factors)
    # One row that the first mirror's row has a part of may be left out: the others and that row span it.
    places = [at for at in range(len(rows)) if at != head_of(factors)]
    parts = [over(ground, before[at], worth) for at in places]
    left = [row_less(ground, rows[at], row_times(ground, first, part)) for at, part in zip(places, parts)]
    table = []
    for at, part in zip(places, parts):
        table.append(tuple([less(ground, seats[at][to], times(ground, part, behind[to])) for to in places]))
    return (tuple(left), tuple(table))
