"""Length classes: numbers, not nought, up to squares."""

from fewmirrors.errors import NoNumber
from fewmirrors.numbers import is_number, is_square, times
from fewmirrors.seats import seats_of
from fewmirrors.tables import determinant


def length_class(keeper):
    """A number of the keeper's class: the determinant of its seat products."""
    rows, seats = seats_of(keeper)
    if not rows:
        return (1, 1)
    return determinant(keeper.form.ground, seats)


def are_alike(ground, x, y):
    """Whether the two numbers are of one class."""
    for thing in (x, y):
        if not is_number(ground, thing) or thing[0] == 0:
            raise NoNumber("a number other than nought is wanted")
    return is_square(ground, times(ground, x, y))
