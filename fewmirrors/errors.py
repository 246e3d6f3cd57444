"""The refusals of the package."""


class MirrorError(ValueError):
    """What all refusals of a thing that is none of its kind stand under."""


class NoGround(MirrorError):
    """No ground."""


class NoNumber(MirrorError):
    """No number, or not one of those wanted."""


class NoRow(MirrorError):
    """No row, or not one of those wanted."""


class NoTable(MirrorError):
    """No table, or not one of those wanted."""


class NoForm(MirrorError):
    """No form, or not the one wanted."""


class NoKeeper(MirrorError):
    """No keeper, or not one of those wanted."""


class NoWorth(MirrorError):
    """A row of worth nought where another worth is wanted."""


class NoSeat(MirrorError):
    """Rows and a table that are no moved space with its seat products."""


class NoFour(MirrorError):
    """No number of four parts, or not one of those wanted."""


class NoPlace(MirrorError):
    """No such place, or no way to it."""


class NoClaim(MirrorError):
    """No claim of a form."""


class NoText(MirrorError):
    """No text of what is wanted."""


class NoSaying(MirrorError):
    """Nothing that a desk can be told."""


class TooMany(MirrorError):
    """More than is allowed."""


class NotKept(MirrorError):
    """A table changes the product of the letters one and other."""

    def __init__(self, one, other):
        super().__init__(f"the product of the letters {one} and {other} is changed")
        self.one = one
        self.other = other


class OverNought(ZeroDivisionError):
    """The number top was to be divided by nought."""

    def __init__(self, top):
        # The text leaves the number out: Python refuses to write very long ones.
        super().__init__("a number is divided by nought")
        self.top = top


class Flat(ArithmeticError):
    """A table has no back: its rows span only as much as rank rows do."""

    def __init__(self, rank):
        super().__init__(f"the table has only the rank {rank}")
        self.rank = rank


class NoName(LookupError):
    """Nothing stands by a name."""

    def __init__(self, name):
        super().__init__(f"nothing stands by the name {name}")
        self.name = name
