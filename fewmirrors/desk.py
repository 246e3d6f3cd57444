"""A desk: it keeps keepers by names, is told rows of words and answers with texts."""

from fewmirrors.errors import NoForm, NoName, NoSaying, NoText
from fewmirrors.fewest import least_count, mirrors_of
from fewmirrors.forms import Form
from fewmirrors.keepers import Keeper, mirror
from fewmirrors.lengths import length_class
from fewmirrors.lines import show_mirrors
from fewmirrors.numbers import show_number
from fewmirrors.tables import show_table
from fewmirrors.texts import row_or_none, table_or_none

LETTERS = "abcdefghijklmnopqrstuvwxyz"
LONGEST_NAME = 8
# How many words each row has; all that stands behind the name of mirror and keeper counts as one.
WORDS = {
    "mirror": 3, "keeper": 3, "then": 4, "back": 3, "drop": 2, "show": 2, "count": 2, "mirrors": 2, "moved": 2,
    "still": 2, "hand": 2, "same": 3, "class": 2, "names": 1,
}
WRITTEN = ("mirror", "keeper")
# By the first name of these rows nothing needs to stand.
MAKING = ("mirror", "keeper", "then", "back")


class Desk:
    """A form, and keepers of it by names."""

    def __init__(self, form):
        if not isinstance(form, Form):
            raise NoForm("a desk is one of a form")
        self.form = form
        self.kept = {}

    def say(self, row):
        """The answer to a row of words."""
        words = words_of(row)
        written = written_in(self.form, words)
        names = names_in(words)
        keepers = self.standing(names[1:] if words[0] in MAKING else names)
        if words[0] in MAKING:
            self.kept[names[0]] = make(self.form, words[0], keepers, written)
            return "ok"
        if words[0] == "drop":
            self.kept.pop(names[0])
            return "ok"
        if words[0] == "names":
            return " ".join(sorted(self.kept)) if self.kept else "none"
        return tell(words[0], keepers)

    def standing(self, names):
        """The keepers by these names."""
        for name in names:
            if name not in self.kept:
                raise NoName(name)
        return [self.kept[name] for name in names]


def words_of(row):
    if not isinstance(row, str):
        raise NoSaying("a desk is told texts")
    word = row.partition(" ")[0]
    words = row.split(" ", 2) if word in WRITTEN else row.split(" ")
    if WORDS.get(word) != len(words):
        raise NoSaying("this is none of the rows that a desk is told")
    for name in names_in(words):
        if not is_name(name):
            raise NoSaying("a name is one to eight letters a to z")
    return words


def names_in(words):
    return words[1:2] if words[0] in WRITTEN else words[1:]


def is_name(word):
    return 1 <= len(word) <= LONGEST_NAME and all([letter in LETTERS for letter in word])


def written_in(form, words):
    """The row or table that is written behind the name, or None where none is due."""
    if words[0] not in WRITTEN:
        return None
    written = row_or_none(form, words[2]) if words[0] == "mirror" else table_or_none(form, words[2])
    if written is None:
        raise NoText("a row or table of as many numbers as letters is wanted")
    return written


def make(form, word, keepers, written):
    if word == "mirror":
        return mirror(form, written)
    if word == "keeper":
        return Keeper(form, written)
    if word == "then":
        return keepers[0].then(keepers[1])
    return keepers[0].back()


def tell(word, keepers):
    if word == "same":
        return "yes" if keepers[0] == keepers[1] else "no"
    teller = TELLERS[word]
    return teller(keepers[0])


def tell_table(keeper):
    return show_table(keeper.table)


def tell_count(keeper):
    return str(least_count(keeper))


def tell_mirrors(keeper):
    return show_mirrors(mirrors_of(keeper))


def tell_moved(keeper):
    return show_space(keeper.moved())


def tell_still(keeper):
    return show_space(keeper.still())


def show_space(rows):
    return show_table(rows) if rows else "none"


def tell_hand(keeper):
    return str(keeper.hand())


def tell_class(keeper):
    return show_number(length_class(keeper))


TELLERS = {
    "show": tell_table, "count": tell_count, "mirrors": tell_mirrors, "moved": tell_moved, "still": tell_still,
    "hand": tell_hand, "class": tell_class,
}
