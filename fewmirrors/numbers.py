"""Numbers of the fractions (ground 0) and of the wheels (grounds 3 to 13), as tuples (top, bottom)."""

from fewmirrors.errors import NoGround, NoNumber, OverNought
from fewmirrors.wholes import common_divisor, is_whole, whole_root

GROUNDS = (0, 3, 5, 7, 11, 13)


def is_ground(thing):
    return is_whole(thing) and thing in GROUNDS


def is_number(ground, thing):
    if not isinstance(thing, tuple) or len(thing) != 2:
        return False
    top, bottom = thing
    if not is_whole(top) or not is_whole(bottom):
        return False
    if ground == 0:
        return bottom >= 1 and common_divisor(top, bottom) == 1
    return 0 <= top < ground and bottom == 1


def number(ground, top, bottom=1):
    """The number top over bottom, of any two whole numbers."""
    if not is_ground(ground):
        raise NoGround("a ground is 0, 3, 5, 7, 11 or 13")
    if is_nought_on(ground, bottom):
        raise OverNought(lowest(ground, top, 1))
    return lowest(ground, top, bottom)


def is_nought_on(ground, whole):
    if ground == 0:
        return whole == 0
    return whole % ground == 0


def lowest(ground, top, bottom):
    """The number top over bottom, where bottom is known not to be nought on the ground."""
    if ground != 0:
        return (top * wheel_back(ground, bottom) % ground, 1)
    shared = common_divisor(top, bottom)
    if bottom < 0:
        shared = -shared
    return (top // shared, bottom // shared)


def wheel_back(wheel, whole):
    """What comes to 1 on the wheel, times the whole number, which is no multiple of the wheel."""
    found = 1
    while found * whole % wheel != 1:
        found += 1
    return found


def plus(ground, x, y):
    return lowest(ground, x[0] * y[1] + y[0] * x[1], x[1] * y[1])


def less(ground, x, y):
    return lowest(ground, x[0] * y[1] - y[0] * x[1], x[1] * y[1])


def times(ground, x, y):
    return lowest(ground, x[0] * y[0], x[1] * y[1])


def over(ground, x, y):
    if y[0] == 0:
        raise OverNought(x)
    return lowest(ground, x[0] * y[1], x[1] * y[0])


def is_square(ground, x):
    return root_or_none(ground, x) is not None


def root_of(ground, x):
    root = root_or_none(ground, x)
    if root is None:
        raise NoNumber("the number is no square")
    return root


def root_or_none(ground, x):
    if ground == 0:
        return fraction_root(x)
    return wheel_root(ground, x)


def fraction_root(x):
    top, bottom = x
    if top < 0:
        return None
    # In lowest terms a fraction is a square only where its top and its bottom both are.
    root = (whole_root(top), whole_root(bottom))
    if root[0] * root[0] != top or root[1] * root[1] != bottom:
        return None
    return root


def wheel_root(wheel, x):
    for a in range(wheel):
        if a * a % wheel == x[0]:
            return (a, 1)
    return None


def show_number(x):
    if x[1] == 1:
        return str(x[0])
    return f"{x[0]}/{x[1]}"
