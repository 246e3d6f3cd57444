"""Mirrors that are exchanged with their neighbours, or begun otherwise."""

from fewmirrors.errors import NoPlace, NoRow
from fewmirrors.forms import want_list_of_rows, want_rows, want_worths
from fewmirrors.keepers import made_of, mirror
from fewmirrors.tables import least_rows
from fewmirrors.wholes import is_whole


def exchanged(form, rows, place):
    """The row of mirrors with those at the place and behind it exchanged; it makes the same keeper."""
    want_list_of_rows(form, rows)
    want_worths(form, rows)
    if not is_whole(place) or not 0 <= place < len(rows) - 1:
        raise NoPlace("at a place a mirror with another one behind it is wanted")
    one, other = rows[place], rows[place + 1]
    return rows[:place] + [other, mirror(form, other).of(one)] + rows[place + 2:]


def otherwise(form, row, other, first):
    """Two mirrors, the first one told, that make what the two by row and other make."""
    want_rows(form, [row, other, first])
    if len(least_rows(form.ground, (row, other))) < 2:
        raise NoRow("two rows that aren't of one line are wanted")
    if len(least_rows(form.ground, (row, other, first))) > 2:
        raise NoRow("a first row that the two span is wanted")
    want_worths(form, [row, other, first])
    # The first row is of the space that the two mirrors move: so its mirror leaves one mirror behind.
    left = made_of(form, [first, row, other])
    return (first, left.moved()[0])
