"""How many keepers a form on a wheel has, which they are, and in how many ways mirrors make them."""

from fewmirrors.errors import TooMany
from fewmirrors.forms import products, worth_of
from fewmirrors.keepers import Keeper, mirror
from fewmirrors.numbers import is_square, number, times
from fewmirrors.tables import determinant, head_of, is_all_nought, through, turned

# On which wheels all keepers of forms of so many letters are gone through.
SMALL_WHEELS = {1: (3, 5, 7, 11, 13), 2: (3, 5, 7, 11, 13), 3: (3, 5)}


def keepers_on(form, wanted=None):
    """All keepers of the form, sorted by their tables, or those of which the def wanted tells True."""
    want_small(form)
    found = [Keeper(form, table) for table in kept_tables(form)]
    if wanted is None:
        return found
    return [keeper for keeper in found if wanted(keeper)]


def want_small(form):
    if form.ground not in SMALL_WHEELS.get(len(form.table), ()):
        raise TooMany("a form of few letters on a small wheel is wanted")


def kept_tables(form):
    """All tables that keep the form's products, sorted."""
    rows = all_rows(form.ground, len(form.table))
    worths = [worth_of(form, row) for row in rows]
    tables = [()]
    for at, line in enumerate(form.table):
        # A letter is led to a row of its own worth only: so few rows are tried with those chosen before.
        able = [row for row, worth in zip(rows, worths) if worth == line[at]]
        tables = [table + (row,) for table in tables for row in able if is_kept_so_far(form, table + (row,))]
    return tables


def all_rows(wheel, many):
    """All rows of so many numbers, sorted."""
    rows = [()]
    for step in range(many):
        rows = [row + ((a, 1),) for row in rows for a in range(wheel)]
    return rows


def is_kept_so_far(form, table):
    """Whether the last row has with all of them the products of the letters that are led to them."""
    many = len(table)
    return turned(products(form, table, table[-1:]))[0] == form.table[many - 1][:many]


def how_many(form):
    """How many keepers the form has."""
    want_wheel(form, 4)
    wheel = form.ground
    square = wheel * wheel
    many = len(form.table)
    if many == 1:
        return 2
    if many == 2:
        return 2 * (wheel - plane_sign(form))
    if many == 3:
        return 2 * wheel * (square - 1)
    return 2 * square * (square - 1) * (square - sign_of(form, determinant(wheel, form.table)))


def by_count(form):
    """How many keepers have the least count 0, 1, and so on."""
    want_wheel(form, 3)
    wheel = form.ground
    square = wheel * wheel
    many = len(form.table)
    if many == 1:
        return [1, 1]
    if many == 2:
        mirrors = wheel - plane_sign(form)
        return [1, mirrors, mirrors - 1]
    return [1, square, wheel * square - wheel - 1, wheel * square - square - wheel]


def want_wheel(form, most):
    if form.ground == 0 or len(form.table) > most:
        raise TooMany("a form of few letters on a wheel is wanted")


def plane_sign(form):
    """1 where rows of worth nought, other than noughts, are in the form of two letters, else -1."""
    return sign_of(form, times(form.ground, determinant(form.ground, form.table), number(form.ground, -1)))


def sign_of(form, x):
    return 1 if is_square(form.ground, x) else -1


def ways_of(keeper):
    """In how many ways the keeper is made of least rows of mirrors, multiples counted as one mirror."""
    want_small(keeper.form)
    return count_ways(keeper)


def count_ways(keeper):
    many = len(keeper)
    if many < 2:
        return 1
    firsts = mirrors_in(keeper.form, keeper.moved())
    if many == 2:
        return len(firsts)
    return sum([count_ways(mirror(keeper.form, row).then(keeper)) for row in firsts])


def mirrors_in(form, space):
    """One row of each line of the space that has a worth other than nought."""
    factors = [row for row in all_rows(form.ground, len(space)) if begins_with_one(row)]
    rows = [through(form.ground, row, space) for row in factors]
    return [row for row in rows if worth_of(form, row)[0] != 0]


def begins_with_one(row):
    return not is_all_nought(row) and row[head_of(row)] == (1, 1)
