"""Rows and tables of numbers.

Inside, rows are reckoned as lists of whole numbers over one bottom: so a common divisor is
sought once for each number that is told, not once for each step that leads to it.
"""

from fewmirrors.errors import Flat
from fewmirrors.numbers import is_number, less, lowest, plus, show_number, times
from fewmirrors.wholes import common_divisor


def is_row(ground, thing, many):
    if not isinstance(thing, tuple) or len(thing) != many:
        return False
    return all([is_number(ground, x) for x in thing])


def is_table(ground, thing, high, wide):
    if not isinstance(thing, tuple) or len(thing) != high:
        return False
    return all([is_row(ground, row, wide) for row in thing])


def through(ground, row, table):
    """The row put through the table."""
    return product(ground, (row,), table)[0]


def product(ground, one, other):
    columns = [whole_row(column) for column in turned(other)]
    return tuple([product_row(ground, whole_row(row), columns) for row in one])


def product_row(ground, row, columns):
    tops, bottom = row
    return tuple([lowest(ground, dot(tops, column), bottom * under) for column, under in columns])


def dot(wholes, others):
    return sum([whole * other for whole, other in zip(wholes, others)])


def whole_row(row):
    """The row as whole numbers, and the bottom that they all are over."""
    bottom = 1
    for x in row:
        bottom = bottom // common_divisor(bottom, x[1]) * x[1]
    return ([x[0] * (bottom // x[1]) for x in row], bottom)


def whole_table(table):
    """The table's rows as whole numbers, and the bottom that they all are over."""
    wide = len(table[0])
    tops, bottom = whole_row([x for row in table for x in row])
    return ([tops[at:at + wide] for at in range(0, len(tops), wide)], bottom)


def turned(table):
    return tuple([tuple([row[at] for row in table]) for at in range(len(table[0]))])


def determinant(ground, table):
    rows = []
    bottom = 1
    for row in table:
        tops, under = whole_row(row)
        rows.append(tops)
        bottom *= under
    return lowest(ground, whole_determinant(rows), bottom)


def whole_determinant(rows):
    sign = 1
    last = 1
    while len(rows) > 1:
        place = head_place(rows, 0, 0)
        if place is None:
            return 0
        # Put first, the row passes as many others as its place tells, each a change of sign.
        if place % 2 == 1:
            sign = -sign
        head = rows[place]
        rows = [smaller_row(row, head, last) for row in rows[:place] + rows[place + 1:]]
        last = head[0]
    return sign * rows[0][0]


def smaller_row(row, head, last):
    # After Bareiss: what comes are determinants of parts of the first table, each times the
    # head before; divided by it, they stay whole and do not grow from step to step.
    return [(row[at] * head[0] - row[0] * head[at]) // last for at in range(1, len(row))]


def head_place(rows, begin, at):
    """The place of the first row, from begin on, that has another number than nought at a place."""
    for place in range(begin, len(rows)):
        if rows[place][at] != 0:
            return place
    return None


def back(ground, table):
    many = len(table)
    rows = beside_ones(ground, table)
    rank = len([row for row in rows if not is_all_nought(row[:many])])
    if rank < many:
        raise Flat(rank)
    return tuple([row[many:] for row in rows])


def nought_rows(ground, table):
    wide = len(table[0])
    rows = beside_ones(ground, table)
    return tuple([row[wide:] for row in rows if is_all_nought(row[:wide])])


def beside_ones(ground, table):
    """The least rows of the table with the table of ones at its right.

    Each of them is, right, a row that the table leads to what stands left.
    """
    ones = table_of_ones(len(table))
    return least_rows(ground, tuple([row + one for row, one in zip(table, ones)]))


def table_of_ones(many):
    """Ones from the first corner to the last, and noughts else."""
    return tuple([tuple([(1, 1) if at == place else (0, 1) for at in range(many)]) for place in range(many)])


def is_all_nought(row):
    return all([x[0] == 0 for x in row])


def head_of(row):
    """The place of the first number other than nought."""
    return [x[0] != 0 for x in row].index(True)


def least_rows(ground, rows):
    wholes = [plain(ground, whole_row(row)[0]) for row in rows]
    return tuple([headed(ground, row) for row in least_wholes(ground, wholes)])


def least_wholes(ground, rows):
    """Rows that span the same and lack of least rows only that their heads may be other than 1."""
    many = 0
    wide = len(rows[0]) if rows else 0
    for at in range(wide):
        place = head_place(rows, many, at)
        if place is not None:
            head = rows[place]
            others = [cleared(ground, row, head, at) for row in rows[:place] + rows[place + 1:]]
            rows = others[:many] + [head] + others[many:]
            many += 1
    return rows[:many]


def cleared(ground, row, head, at):
    """A multiple of the row, less a multiple of the head's row, with nought at the head's place."""
    if row[at] == 0:
        return row
    return plain(ground, [x * head[at] - y * row[at] for x, y in zip(row, head)])


def plain(ground, row):
    """The row of whole numbers made small, by a number that changes nothing in what it spans."""
    if ground != 0:
        return [x % ground for x in row]
    shared = 0
    for x in row:
        shared = common_divisor(shared, x)
    if shared == 0:
        return row
    return [x // shared for x in row]


def plain_row(ground, row):
    """A multiple of the row, of whole numbers as small as can be."""
    return tuple([(x, 1) for x in plain(ground, whole_row(row)[0])])


def headed(ground, row):
    """The row of numbers that has a 1 as its head."""
    head = [x for x in row if x != 0][0]
    return tuple([lowest(ground, x, head) for x in row])


def row_plus(ground, row, other):
    return tuple([plus(ground, x, y) for x, y in zip(row, other)])


def row_less(ground, row, other):
    return tuple([less(ground, x, y) for x, y in zip(row, other)])


def row_times(ground, row, factor):
    return tuple([times(ground, x, factor) for x in row])


def table_plus(ground, one, other):
    return tuple([row_plus(ground, row, beside) for row, beside in zip(one, other)])


def table_less(ground, one, other):
    return tuple([row_less(ground, row, beside) for row, beside in zip(one, other)])


def table_times(ground, table, factor):
    return tuple([row_times(ground, row, factor) for row in table])


def show_row(row):
    return " ".join([show_number(x) for x in row])


def show_table(table):
    return " / ".join([show_row(row) for row in table])
