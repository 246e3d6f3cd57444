"""Lines: rows of mirrors that are put and taken at either end."""

from fewmirrors.errors import NoForm, NoPlace, TooMany
from fewmirrors.fewest import mirrors_of
from fewmirrors.forms import Form, want_rows, want_worths
from fewmirrors.keepers import MOST_MIRRORS, made_of, want_mirrors
from fewmirrors.tables import show_row


class Line:
    """A form, and a row of at most sixteen mirrors."""

    def __init__(self, form, rows=None):
        if not isinstance(form, Form):
            raise NoForm("a line is one of a form")
        self.form = form
        self.mirrors = []
        if rows is not None:
            want_mirrors(form, rows)
            self.mirrors = list(rows)

    def __eq__(self, other):
        return isinstance(other, Line) and self.form == other.form and self.keeper() == other.keeper()

    def __len__(self):
        return len(self.mirrors)

    def __str__(self):
        return f"{show_mirrors(self.mirrors)}"

    def __repr__(self):
        return f"Line({str(self)})"

    def put(self, row, front=False):
        """Puts a mirror behind the last one, or ahead of the first."""
        want_rows(self.form, [row])
        want_worths(self.form, [row])
        if len(self.mirrors) >= MOST_MIRRORS:
            raise TooMany("a line keeps at most sixteen mirrors")
        if front:
            self.mirrors.insert(0, row)
        else:
            self.mirrors.append(row)

    def take(self, front=False):
        """Takes the last mirror away, or the first, and tells it."""
        if not self.mirrors:
            raise NoPlace("the line has no mirror")
        if front:
            return self.mirrors.pop(0)
        return self.mirrors.pop()

    def rows(self):
        return list(self.mirrors)

    def keeper(self):
        return made_of(self.form, self.mirrors)

    def shorten(self):
        """Keeps a least row of mirrors of the same keeper instead."""
        self.mirrors = mirrors_of(self.keeper())


def show_mirrors(rows):
    if not rows:
        return "none"
    return ", ".join([show_row(row) for row in rows])
