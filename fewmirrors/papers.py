"""Claims of a form, and papers that show them."""

from fewmirrors.errors import NoClaim
from fewmirrors.fewest import mirrors_of
from fewmirrors.forms import products, row_of_worth, worth_of
from fewmirrors.keepers import MOST_MIRRORS, Keeper, first_changed, is_made_of, mirrors_table
from fewmirrors.leading import led
from fewmirrors.numbers import is_number, is_square, times
from fewmirrors.seats import seats_of
from fewmirrors.tables import (
    is_row, is_table, least_rows, product, row_times, table_less, table_of_ones, through,
)
from fewmirrors.wholes import is_whole


def is_claim(form, thing):
    if not isinstance(thing, tuple) or not thing:
        return False
    if thing[0] in ("made", "fewest"):
        return len(thing) == 3 and is_square_table(form, thing[1]) and is_mirror_count(thing[2])
    if thing[0] in ("not kept", "seat"):
        return len(thing) == 2 and is_square_table(form, thing[1])
    if thing[0] in ("led", "apart"):
        return len(thing) == 3 and are_mirrors(form, thing[1:])
    return False


def is_square_table(form, thing):
    """Whether it is a table of the form's ground, as high and wide as the form's."""
    return is_table(form.ground, thing, len(form.table), len(form.table))


def is_mirror_count(thing):
    return is_whole(thing) and 0 <= thing <= MOST_MIRRORS


def are_rows(form, things):
    return all([is_row(form.ground, thing, len(form.table)) for thing in things])


def are_mirrors(form, things):
    """Whether all are rows of worths other than nought."""
    return are_rows(form, things) and all([worth_of(form, row)[0] != 0 for row in things])


def is_pair(thing):
    return isinstance(thing, tuple) and len(thing) == 2


def moved_by(form, table):
    """The least rows of all rows less what the table leads them to."""
    return least_rows(form.ground, table_less(form.ground, table_of_ones(len(table)), table))


def shows_made(form, claim, paper):
    if not isinstance(paper, tuple) or len(paper) != claim[2]:
        return False
    return are_mirrors(form, paper) and is_made_of(form, claim[1], paper)


def shows_fewest(form, claim, paper):
    if not is_pair(paper) or not shows_made(form, claim, paper[0]):
        return False
    return is_moved_space(form, claim[1], paper[1]) and is_space_of(form, paper[1], claim[2])


def is_moved_space(form, table, thing):
    # What is told are numbers, not truths that are equal to them: so the kinds are looked at first.
    return isinstance(thing, tuple) and are_rows(form, thing) and thing == moved_by(form, table)


def is_space_of(form, space, count):
    """Whether a keeper that moves the space, and is made of so many mirrors, needs as many."""
    if len(space) == count:
        return True
    return len(space) > 0 and len(space) == count - 2 and row_of_worth(form, space) is None


def shows_not_kept(form, claim, paper):
    if not is_pair(paper) or not are_rows(form, paper):
        return False
    row, other = product(form.ground, paper, claim[1])
    return products(form, (row,), (other,)) != products(form, paper[:1], paper[1:])


def shows_seat(form, claim, paper):
    if not is_pair(paper) or first_changed(form, claim[1]) is not None:
        return False
    space, seats = paper
    if not is_moved_space(form, claim[1], space) or not is_table(form.ground, seats, len(space), len(space)):
        return False
    return paper == seats_of(Keeper(form, claim[1]))


def shows_led(form, claim, paper):
    if not is_pair(paper) or not is_number(form.ground, paper[1]):
        return False
    rows, c = paper
    if not isinstance(rows, list) or len(rows) > 2 or not are_mirrors(form, rows):
        return False
    return through(form.ground, claim[1], mirrors_table(form, rows)) == row_times(form.ground, claim[2], c)


def shows_apart(form, claim, paper):
    return isinstance(paper, tuple) and len(paper) == 0 and are_apart(form, claim[1], claim[2])


def are_apart(form, row, other):
    return not is_square(form.ground, times(form.ground, worth_of(form, row), worth_of(form, other)))


LOOKERS = {
    "made": shows_made, "fewest": shows_fewest, "not kept": shows_not_kept, "seat": shows_seat, "led": shows_led,
    "apart": shows_apart,
}


def holds(form, claim, paper):
    """Whether the paper shows that the claim is so."""
    if not is_claim(form, claim):
        return False
    shows = LOOKERS[claim[0]]
    return shows(form, claim, paper)


def paper_made(form, claim):
    if first_changed(form, claim[1]) is not None:
        return None
    rows = mirrors_of(Keeper(form, claim[1]))
    more = claim[2] - len(rows)
    if more < 0 or more % 2 == 1:
        return None
    # A mirror that stands twice changes nothing.
    return tuple(rows + [form.frame()[0]] * more)


def paper_fewest(form, claim):
    if first_changed(form, claim[1]) is not None:
        return None
    rows = mirrors_of(Keeper(form, claim[1]))
    if len(rows) != claim[2]:
        return None
    return (tuple(rows), moved_by(form, claim[1]))


def paper_not_kept(form, claim):
    changed = first_changed(form, claim[1])
    if changed is None:
        return None
    letters = table_of_ones(len(form.table))
    return (letters[changed[0]], letters[changed[1]])


def paper_seat(form, claim):
    if first_changed(form, claim[1]) is not None:
        return None
    return seats_of(Keeper(form, claim[1]))


def paper_led(form, claim):
    told = led(form, claim[1], claim[2])
    if told is None:
        return None
    return told[1:]


def paper_apart(form, claim):
    if not are_apart(form, claim[1], claim[2]):
        return None
    return ()


WRITERS = {
    "made": paper_made, "fewest": paper_fewest, "not kept": paper_not_kept, "seat": paper_seat, "led": paper_led,
    "apart": paper_apart,
}


def paper_of(form, claim):
    """A paper that shows the claim, or None where it isn't so."""
    if not is_claim(form, claim):
        raise NoClaim("this is no claim of the form")
    write = WRITERS[claim[0]]
    return write(form, claim)
