"""What the tests have in common: any things, sample numbers and tables, and plain reckoning to compare with."""

from fractions import Fraction
from itertools import permutations, product as ways
from random import Random

from fewmirrors.desk import Desk
from fewmirrors.errors import Flat, MirrorError, NoName
from fewmirrors.forms import Form
from fewmirrors.keepers import Keeper
from fewmirrors.lines import Line
from fewmirrors.numbers import number
from fewmirrors.tables import back, determinant, product, turned

GROUNDS = (0, 3, 5, 7, 11, 13)
WHEELS = (3, 5, 7, 11, 13)


def any_things():
    """Things that are neither grounds, numbers, rows nor tables."""
    return [
        True, False, None, "", "0", "3", "(1, 1)", "~" * 20000, [], (), [0], [3], (3,), (True,),
        [1, 1], ["1", "1"], ("1", "1"), (1,), (1, 1, 1), (None, 1), (1, None), (True, 1), (1, True), (False, 1),
        (0, False), ([1], 1), (1, [1]), ((1,), 1), ([], []), ((), ()), [(1, 1)], [[(1, 1)]],
        [True] * 600, (None,) * 600, nested(), MirrorError("x"), NoName("x"), (MirrorError("x"), 1),
    ]


def nested():
    """Tuples and lists, ten within one another."""
    thing = (1, 1)
    for step in range(9):
        thing = [thing, thing] if step % 2 else (thing, thing)
    return thing


def as_fraction(x):
    return Fraction(x[0], x[1])


def of_fraction(fraction):
    return (fraction.numerator, fraction.denominator)


def expected(ground, value):
    """The number of a ground of what plain reckoning with Python's fractions came to."""
    if ground == 0:
        return of_fraction(Fraction(value))
    value = Fraction(value)
    return (value.numerator * pow(value.denominator, -1, ground) % ground, 1)


def wide_numbers(seed, many, figures):
    """Numbers of the fractions with so many figures above and below."""
    random = Random(seed)
    low, high = 10 ** (figures - 1), 10 ** figures - 1
    told = []
    while len(told) < many:
        fraction = Fraction(random.choice((1, -1)) * random.randint(low, high), random.randint(low, high))
        if fraction.denominator >= low and abs(fraction.numerator) >= low:
            told.append(of_fraction(fraction))
    return told


def small_numbers(ground):
    """All numbers of a wheel; of the fractions some, of all kinds."""
    if ground:
        return [(a, 1) for a in range(ground)]
    return sorted({of_fraction(Fraction(top, bottom)) for top in range(-6, 7) for bottom in range(1, 5)})


def some_number(random, ground):
    if ground:
        return (random.randrange(ground), 1)
    # Every other number is nought, so that tables are flat often enough.
    return number(0, random.choice((0, random.randint(-9, 9))), random.randint(1, 6))


def some_table(random, ground, high, wide):
    return tuple(tuple(some_number(random, ground) for at in range(wide)) for row in range(high))


def wholes(ground, *rows):
    """A table, written with whole numbers and fractions."""
    return tuple(tuple(expected(ground, Fraction(x)) for x in row) for row in rows)


def ones(many):
    return tuple(tuple((int(at == row), 1) for at in range(many)) for row in range(many))


def contrary_ones(ground, many):
    return wholes(ground, *[[-int(at == row) for at in range(many)] for row in range(many)])


def plain_product(ground, one, other):
    return tuple(
        tuple(
            expected(ground, sum(as_fraction(row[k]) * as_fraction(other[k][at]) for k in range(len(row))))
            for at in range(len(other[0]))
        )
        for row in one
    )


def plain_determinant(ground, table):
    """Over all ways of one number in each row and column."""
    total = Fraction(0)
    for way in permutations(range(len(table))):
        sign = (-1) ** sum(way[i] > way[j] for j in range(len(way)) for i in range(j))
        term = Fraction(sign)
        for row, at in zip(table, way):
            term *= as_fraction(row[at])
        total += term
    return expected(ground, total)


def plain_sum(ground, one, other):
    """The sum of two tables."""
    return tuple(row_sum(ground, *pair) for pair in zip(one, other))


def plain_gap(ground, one, other):
    return tuple(row_gap(ground, *pair) for pair in zip(one, other))


def all_rows(wheel, many):
    return list(ways([(a, 1) for a in range(wheel)], repeat=many))


def span(wheel, rows, many):
    """All rows, of so many numbers, that some rows of a wheel span."""
    told = set()
    for factors in ways(range(wheel), repeat=len(rows)):
        told.add(tuple(
            (sum(factor * row[at][0] for factor, row in zip(factors, rows)) % wheel, 1) for at in range(many)
        ))
    return told


def are_least(rows):
    """Whether rows have their heads as least rows have them."""
    heads = []
    for row in rows:
        places = [at for at, x in enumerate(row) if x != (0, 1)]
        if not places or row[places[0]] != (1, 1):
            return False
        heads.append(places[0])
    if heads != sorted(set(heads)):
        return False
    return all(row[head] == (0, 1) for at, head in enumerate(heads) for place, row in enumerate(rows) if place != at)


def refusal(function, *arguments):
    """The class of what a function refuses with."""
    try:
        function(*arguments)
    except MirrorError as error:
        return type(error)
    return None


def flat_rank(function, *arguments):
    """The rank told where a function refuses with Flat, or None."""
    try:
        function(*arguments)
    except Flat as error:
        return error.rank
    return None


def objects():
    """Objects of the package: any things too."""
    form = Form(ones(2))
    told = [form, Form(ones(3), 7), Keeper(form, ones(2)), [form], (Keeper(form, ones(2)),), (form, ones(2))]
    told += [Line(form), Line(form, list(ones(2))), [Line(form)], (Line(form), Line(form))]
    return told + [Desk(form), [Desk(form)], (Desk(form), 1)]


def is_none_of(form, thing):
    """Whether a thing is no row of a form, looked at plainly."""
    if not isinstance(thing, tuple) or len(thing) != len(form.table):
        return True
    return any(not is_plain_number(form.ground, x) for x in thing)


def is_plain_number(ground, thing):
    if not isinstance(thing, tuple) or len(thing) != 2 or any(type(part) is not int for part in thing):
        return False
    if ground:
        return thing[1] == 1 and 0 <= thing[0] < ground
    return thing[1] > 0 and of_fraction(Fraction(*thing)) == thing


def no_rows(form):
    """Things that are no rows of a form, such as rows with one thing otherwise."""
    row = ((1, 1),) * len(form.table)
    wrong = [True, None, 1, "1", [1, 1], (1,), (True, 1), (1, True), (1, 0), (1, -1), (2, 2), (), row]
    wrong += [(form.ground, 1), (-1, 1), (1, 2)] if form.ground else [(0, 2), (2, 4)]
    told = any_things() + objects() + [0, 1, (1, 1), list(row), row[1:], row + row[:1], (row,), [row], form.table]
    for at in range(len(row)):
        told += [row[:at] + (x,) + row[at + 1:] for x in wrong]
    return [thing for thing in told if is_none_of(form, thing)]


def no_tables(many):
    """Things that are no tables of so many rows and columns, on any ground."""
    table = ones(many)
    told = any_things() + objects() + [0, 1, (1, 1), list(table), table + table[:1], table[1:], (table,), [table]]
    told += [ones(many + 1), tuple(list(row) for row in table), tuple(row + row[:1] for row in table)]
    for at in range(many):
        for wrong in (True, 1, (True, 1), (1, True), (2, 2), (1, 0), [1, 1], None):
            row = table[at][:at] + (wrong,) + table[at][at + 1:]
            told.append(table[:at] + (row,) + table[at + 1:])
    return told


def with_number(table, one, other, x):
    """The table with another number at a place."""
    row = table[one][:other] + (x,) + table[one][other + 1:]
    return table[:one] + (row,) + table[one + 1:]


def most_letters(ground):
    return 4 if ground else 5


def squares(ground, many):
    return Form(ones(many), ground)


def planes(ground, many):
    """A form whose letters all have worth nought, but the last one where their count is odd."""
    table = [[0] * many for at in range(many)]
    for at in range(many):
        beside = at + 1 if at % 2 == 0 else at - 1
        table[at][min(beside, many - 1)] = 1
    return Form(wholes(ground, *table), ground)


def some_base(random, ground, many):
    while True:
        table = some_table(random, ground, many, many)
        if determinant(ground, table) != (0, 1):
            return table


def based(base, form):
    """The form, told by the rows of a base."""
    return Form(product(form.ground, product(form.ground, base, form.table), turned(base)), form.ground)


def based_keeper(base, keeper):
    """The keeper, told by the rows of a base."""
    ground = keeper.form.ground
    table = product(ground, product(ground, base, keeper.table), back(ground, base))
    return Keeper(based(base, keeper.form), table)


def some_form(random, ground, many):
    while True:
        table = some_table(random, ground, many, many)
        table = tuple(tuple(table[min(at, to)][max(at, to)] for to in range(many)) for at in range(many))
        if determinant(ground, table) != (0, 1):
            return Form(table, ground)


def sample_forms(ground):
    """Of each count of letters: squares, one of planes, one of planes otherwise told, and any."""
    random = Random(70 + ground)
    told = []
    for many in range(1, most_letters(ground) + 1):
        told += [squares(ground, many), planes(ground, many), some_form(random, ground, many)]
        told.append(based(some_base(random, ground, many), planes(ground, many)))
    return told


def plain_pair(form, row, other):
    """The product of two rows, by sums of whole numbers or of Python's fractions."""
    many = range(len(form.table))
    if form.ground:
        total = sum(row[at][0] * form.table[at][to][0] * other[to][0] for at in many for to in many)
        return (total % form.ground, 1)
    return expected(0, sum(
        as_fraction(row[at]) * as_fraction(form.table[at][to]) * as_fraction(other[to]) for at in many for to in many
    ))


def plain_mirrored(form, row, by):
    """Where the mirror by a row leads another one."""
    pair, worth = plain_pair(form, row, by), plain_pair(form, by, by)
    if form.ground:
        factor = 2 * pair[0] * pow(worth[0], -1, form.ground)
        return tuple(((x[0] - factor * y[0]) % form.ground, 1) for x, y in zip(row, by))
    factor = 2 * as_fraction(pair) / as_fraction(worth)
    return tuple(of_fraction(as_fraction(x) - factor * as_fraction(y)) for x, y in zip(row, by))


def plain_made(form, rows):
    """The table of the mirrors by rows, one after another."""
    table = ones(len(form.table))
    for by in rows:
        table = tuple(plain_mirrored(form, row, by) for row in table)
    return table


def some_row(random, form):
    """A row of worth other than nought."""
    while True:
        row = some_table(random, form.ground, 1, len(form.table))[0]
        if plain_pair(form, row, row) != (0, 1):
            return row


def some_mirrors(random, form, many):
    return [some_row(random, form) for at in range(many)]


def multiple(ground, row, factor):
    return tuple(expected(ground, as_fraction(x) * as_fraction(factor)) for x in row)


def row_sum(ground, row, other):
    return tuple(expected(ground, as_fraction(x) + as_fraction(y)) for x, y in zip(row, other))


def row_gap(ground, row, other):
    return tuple(expected(ground, as_fraction(x) - as_fraction(y)) for x, y in zip(row, other))


def sliding(ground, many, by):
    """A keeper of planes, of four or five letters, whose moved space has two letters, all of worth nought."""
    table = [[int(at == to) for to in range(many)] for at in range(many)]
    table[1][2], table[3][0] = by, -by
    return Keeper(planes(ground, many), wholes(ground, *table))


def sliding_keepers(ground):
    """Keepers with moved spaces that aren't bare and have only rows of worth nought."""
    random = Random(90 + ground)
    told = []
    for many in range(4, most_letters(ground) + 1):
        for by in (1, 2, -1):
            told.append(sliding(ground, many, by))
            told.append(based_keeper(some_base(random, ground, many), sliding(ground, many, by)))
    return told


def sample_keepers(ground):
    """Keepers of all kinds: of none to many mirrors, all contrary, sliding, and sliding behind a mirror."""
    random = Random(110 + ground)
    told = []
    for form in sample_forms(ground):
        many = len(form.table)
        told += [Keeper(form, ones(many)), Keeper(form, contrary_ones(ground, many))]
        for count in range(1, many + 3):
            told.append(Keeper(form, plain_made(form, some_mirrors(random, form, count))))
    for keeper in sliding_keepers(ground):
        mirrored = Keeper(keeper.form, plain_made(keeper.form, some_mirrors(random, keeper.form, 1)))
        told += [keeper, keeper.then(mirrored), mirrored.then(keeper)]
    return told


def spans_row(ground, rows, row):
    """Whether rows, none of which the others span, span one more."""
    if not rows:
        return all(x == (0, 1) for x in row)
    return rank(ground, rows + (row,)) == rank(ground, rows)


def rank(ground, rows):
    """How many rows are needed to span the same, by plain steps."""
    left = [[as_fraction(x) for x in row] for row in rows]
    found = 0
    for at in range(len(rows[0])):
        heads = [row for row in left if expected(ground, row[at]) != (0, 1)]
        if heads:
            head = heads[0]
            left.remove(head)
            left = [cleared_row(ground, row, head, at) for row in left]
            found += 1
    return found


def cleared_row(ground, row, head, at):
    factor = as_fraction(expected(ground, row[at] / as_fraction(expected(ground, head[at]))))
    return [as_fraction(expected(ground, x - factor * y)) for x, y in zip(row, head)]


def plain_back(ground, table):
    """What comes to ones, times the table, by plain steps; the table isn't flat."""
    many = len(table)
    left = [[as_fraction(x) for x in row + one] for row, one in zip(table, ones(many))]
    for at in range(many):
        place = next(place for place in range(at, many) if expected(ground, left[place][at]) != (0, 1))
        left[at], left[place] = left[place], left[at]
        head = as_fraction(expected(ground, 1 / left[at][at]))
        left[at] = [as_fraction(expected(ground, x * head)) for x in left[at]]
        for place in range(many):
            if place != at:
                left[place] = cleared_row(ground, left[place], left[at], at)
    return tuple(tuple(expected(ground, x) for x in row[many:]) for row in left)


class AllKeepers:
    """What tells how many mirrors the keepers of a form on a small wheel need, by going through all of them."""

    def __init__(self, form):
        self.form = form
        many = len(form.table)
        self.lines = [
            row for row in all_rows(form.ground, many)
            if next((x for x in row if x[0]), None) == (1, 1) and plain_pair(form, row, row) != (0, 1)
        ]
        self.mirrors = [self.figures(plain_made(form, [row])) for row in self.lines]
        self.counts = {self.figures(ones(many)): 0}
        last = list(self.counts)
        while last:
            last = self.step(last)

    def step(self, last):
        found = []
        for one in last:
            for other in self.mirrors:
                table = self.together(one, other)
                if table not in self.counts:
                    self.counts[table] = self.counts[one] + 1
                    found.append(table)
        return found

    def together(self, one, other):
        columns = list(zip(*other))
        wheel = self.form.ground
        return tuple(tuple(sum(x * y for x, y in zip(row, column)) % wheel for column in columns) for row in one)

    def figures(self, table):
        return tuple(tuple(x[0] for x in row) for row in table)

    def keepers(self):
        """All keepers with their least counts."""
        return [
            (Keeper(self.form, tuple(tuple((x, 1) for x in row) for row in table)), count)
            for table, count in self.counts.items()
        ]

    def count_of(self, keeper):
        return self.counts[self.figures(keeper.table)]

    def begins(self, keeper, at):
        """Whether the mirror by a line leaves one mirror fewer."""
        left = self.together(self.mirrors[at], self.figures(keeper.table))
        return self.counts[left] == self.count_of(keeper) - 1
