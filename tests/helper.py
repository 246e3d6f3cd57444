"""What the tests have in common: any things, sample numbers and tables, and plain reckoning to compare with."""

from fractions import Fraction
from itertools import permutations, product as ways
from random import Random

from fewmirrors.errors import MirrorError, NoName
from fewmirrors.numbers import number

GROUNDS = (0, 3, 5, 7, 11, 13)
WHEELS = (3, 5, 7, 11, 13)


def any_things():
    """Things that are neither grounds, numbers, rows nor tables."""
    return [
        True, False, None, "", "0", "3", "(1, 1)", "~" * 20000, [], (), [0], [3], (3,), (True,),
        [1, 1], ["1", "1"], ("1", "1"), (1,), (1, 1, 1), (None, 1), (1, None), (True, 1), (1, True), (False, 1),
        (0, False), ([1], 1), (1, [1]), ((1,), 1), ([], []), ((), ()), [(1, 1)], [[(1, 1)]],
        [True] * 600, (None,) * 600, nested(), MirrorError("x"), NoName("x"), (MirrorError("x"), 1),
    ]


def nested():
    """Tuples and lists, ten within one another."""
    thing = (1, 1)
    for step in range(9):
        thing = [thing, thing] if step % 2 else (thing, thing)
    return thing


def as_fraction(x):
    return Fraction(x[0], x[1])


def of_fraction(fraction):
    return (fraction.numerator, fraction.denominator)


def expected(ground, value):
    """The number of a ground of what plain reckoning with Python's fractions came to."""
    if ground == 0:
        return of_fraction(Fraction(value))
    value = Fraction(value)
    return (value.numerator * pow(value.denominator, -1, ground) % ground, 1)


def wide_numbers(seed, many, figures):
    """Numbers of the fractions with so many figures above and below."""
    random = Random(seed)
    low, high = 10 ** (figures - 1), 10 ** figures - 1
    told = []
    while len(told) < many:
        fraction = Fraction(random.choice((1, -1)) * random.randint(low, high), random.randint(low, high))
        if fraction.denominator >= low and abs(fraction.numerator) >= low:
            told.append(of_fraction(fraction))
    return told


def small_numbers(ground):
    """All numbers of a wheel; of the fractions some, of all kinds."""
    if ground:
        return [(a, 1) for a in range(ground)]
    return sorted({of_fraction(Fraction(top, bottom)) for top in range(-6, 7) for bottom in range(1, 5)})


def some_number(random, ground):
    if ground:
        return (random.randrange(ground), 1)
    # Every other number is nought, so that tables are flat often enough.
    return number(0, random.choice((0, random.randint(-9, 9))), random.randint(1, 6))


def some_table(random, ground, high, wide):
    return tuple(tuple(some_number(random, ground) for at in range(wide)) for row in range(high))


def wholes(ground, *rows):
    """A table, written with whole numbers and fractions."""
    return tuple(tuple(expected(ground, Fraction(x)) for x in row) for row in rows)


def ones(many):
    return tuple(tuple((int(at == row), 1) for at in range(many)) for row in range(many))


def plain_product(ground, one, other):
    return tuple(
        tuple(
            expected(ground, sum(as_fraction(row[k]) * as_fraction(other[k][at]) for k in range(len(row))))
            for at in range(len(other[0]))
        )
        for row in one
    )


def plain_determinant(ground, table):
    """Over all ways of one number in each row and column."""
    total = Fraction(0)
    for way in permutations(range(len(table))):
        sign = (-1) ** sum(way[i] > way[j] for j in range(len(way)) for i in range(j))
        term = Fraction(sign)
        for row, at in zip(table, way):
            term *= as_fraction(row[at])
        total += term
    return expected(ground, total)


def all_rows(wheel, many):
    return list(ways([(a, 1) for a in range(wheel)], repeat=many))


def span(wheel, rows, many):
    """All rows, of so many numbers, that some rows of a wheel span."""
    told = set()
    for factors in ways(range(wheel), repeat=len(rows)):
        told.add(tuple(
            (sum(factor * row[at][0] for factor, row in zip(factors, rows)) % wheel, 1) for at in range(many)
        ))
    return told


def are_least(rows):
    """Whether rows have their heads as least rows have them."""
    heads = []
    for row in rows:
        places = [at for at, x in enumerate(row) if x != (0, 1)]
        if not places or row[places[0]] != (1, 1):
            return False
        heads.append(places[0])
    if heads != sorted(set(heads)):
        return False
    return all(row[head] == (0, 1) for at, head in enumerate(heads) for place, row in enumerate(rows) if place != at)
