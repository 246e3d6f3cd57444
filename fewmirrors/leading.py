"""Rows of mirrors that lead a row to another one."""

from fewmirrors.errors import NoPlace
from fewmirrors.forms import want_rows, want_worths, worth_of
from fewmirrors.numbers import over, root_or_none
from fewmirrors.tables import row_less, row_plus, row_times


def leading(form, row, other):
    """As few mirrors as lead the one row to the other one, of the same worth."""
    want_rows(form, [row, other])
    want_worths(form, [row, other])
    if worth_of(form, row) != worth_of(form, other):
        raise NoPlace("no mirrors lead a row to one of another worth")
    return leading_mirrors(form, row, other)


def led(form, row, other):
    """At most two mirrors that lead the one row to a multiple of the other one, or None."""
    want_rows(form, [row, other])
    want_worths(form, [row, other])
    # The one worth over the other is a square just where their product is.
    c = root_or_none(form.ground, over(form.ground, worth_of(form, row), worth_of(form, other)))
    if c is None:
        return None
    return ("led", leading_mirrors(form, row, row_times(form.ground, other, c)), c)


def leading_mirrors(form, row, other):
    if row == other:
        return []
    gap = row_less(form.ground, row, other)
    if worth_of(form, gap)[0] != 0:
        return [gap]
    # The sum's worth is then four times the row's: its mirror leads the row to the other one's contrary.
    return [row_plus(form.ground, row, other), other]
