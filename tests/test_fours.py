"""Numbers of four parts: their products and norms, turns and double turns, and fours of keepers."""

import unittest
from random import Random

from fewmirrors.errors import NoForm, NoFour, NoKeeper
from fewmirrors.forms import Form
from fewmirrors.fours import double_turn, four_of, four_times, norm_of, pair_of, turn_of
from fewmirrors.keepers import Keeper, made_of, mirror, same
from tests.helper import (
    GROUNDS, WHEELS, AllKeepers, any_things, as_fraction, contrary_ones, expected, multiple, objects, ones, plain_pair,
    planes, rank, refusal, sample_forms, small_numbers, some_mirrors, some_number, squares, wholes, wide_numbers,
)

# What 1, i, j and k come to, two by two: a sign and the place of one of them.
RULES = (
    ((1, 0), (1, 1), (1, 2), (1, 3)),
    ((1, 1), (-1, 0), (1, 3), (-1, 2)),
    ((1, 2), (-1, 3), (-1, 0), (1, 1)),
    ((1, 3), (1, 2), (-1, 1), (-1, 0)),
)
NOUGHT = ((0, 1),) * 4


def plain_times(ground, one, other):
    parts = [0] * 4
    for at, x in enumerate(one):
        for to, y in enumerate(other):
            sign, place = RULES[at][to]
            parts[place] += sign * as_fraction(x) * as_fraction(y)
    return tuple(expected(ground, part) for part in parts)


def plain_norm(ground, four):
    return expected(ground, sum(as_fraction(x) ** 2 for x in four))


def plain_contrary(ground, four):
    return four[:1] + multiple(ground, four[1:], (-1, 1))


def between(ground, one, row, other):
    """A four between two others, over the first one's norm."""
    told = plain_times(ground, plain_times(ground, one, row), other)
    return tuple(expected(ground, as_fraction(x) / as_fraction(plain_norm(ground, one))) for x in told)


def some_four(random, ground):
    """Any four of norm other than nought."""
    while True:
        four = tuple(some_number(random, ground) for at in range(4))
        if plain_norm(ground, four) != (0, 1):
            return four


def some_pair(random, ground):
    """Any two fours of one norm: what two fours come to, either way about, one of them or both contrary at times."""
    one, other = some_four(random, ground), some_four(random, ground)
    if random.randrange(2):
        other = plain_contrary(ground, other)
    pair = (plain_times(ground, one, other), plain_times(ground, other, one))
    if random.randrange(2):
        pair = (multiple(ground, pair[0], (-1, 1)), plain_contrary(ground, pair[1]))
    return pair


def no_fours(ground):
    """Things that are no fours, or of norm nought."""
    right = ((1, 1), (0, 1), (0, 1), (0, 1))
    told = any_things() + objects() + [0, 1, NOUGHT, list(right), right[1:], right + right[:1], (right,), [right]]
    wrong = [True, None, 1, "1", [0, 1], (0,), (False, 1), (0, True), (0, 0), (0, -1), (0, 2), (), right]
    wrong += [(ground, 1), (-1, 1), (1, 2)] if ground else [(2, 4)]
    for at in range(4):
        told += [right[:at] + (x,) + right[at + 1:] for x in wrong]
    return told + fours_of_norm_nought(ground)


def fours_of_norm_nought(ground):
    if ground == 0:
        return []
    told = [(a, b, c, d) for a in range(3) for b in range(3) for c in range(ground) for d in range(ground)]
    return [tuple((x, 1) for x in four) for four in told if sum(x * x for x in four) % ground == 0]


class Products(unittest.TestCase):
    def test_rules(self):
        units = ones(4)
        for ground in GROUNDS:
            for at in range(4):
                for to in range(4):
                    sign, place = RULES[at][to]
                    told = four_times(ground, units[at], units[to])
                    self.assertEqual(told, multiple(ground, units[place], (sign, 1)))
            i, j, k = units[1:]
            less_one = multiple(ground, units[0], (-1, 1))
            for told in (four_times(ground, x, x) for x in (i, j, k)):
                self.assertEqual(told, less_one)
            self.assertEqual(four_times(ground, four_times(ground, i, j), k), less_one)

    def test_known_ones(self):
        one, other = wholes(0, (1, 2, 3, 4), (5, 6, 7, 8))
        self.assertEqual(four_times(0, one, other), wholes(0, (-60, 12, 30, 24))[0])
        self.assertEqual(four_times(0, other, one), wholes(0, (-60, 20, 14, 32))[0])
        self.assertEqual(norm_of(0, one), (30, 1))
        self.assertEqual(norm_of(7, one), (2, 1))
        halves = wholes(0, ("1/2", "1/2", "-1/2", "1/2"))[0]
        self.assertEqual(norm_of(four=halves, ground=0), (1, 1))
        self.assertEqual(four_times(other=halves, one=halves, ground=0), wholes(0, ("-1/2", "1/2", "-1/2", "1/2"))[0])

    def test_any(self):
        random = Random(220)
        for ground in GROUNDS:
            for step in range(60):
                one, other, third = [tuple(some_number(random, ground) for at in range(4)) for four in range(3)]
                both = four_times(ground, one, other)
                self.assertEqual(both, plain_times(ground, one, other))
                self.assertEqual(
                    four_times(ground, both, third), four_times(ground, one, four_times(ground, other, third))
                )
                norm = norm_of(ground, one)
                self.assertEqual(norm, plain_norm(ground, one))
                product = as_fraction(norm) * as_fraction(norm_of(ground, other))
                self.assertEqual(norm_of(ground, both), expected(ground, product))
                contrary = plain_contrary(ground, one)
                self.assertEqual(four_times(ground, one, contrary), (norm,) + NOUGHT[1:])
                self.assertEqual(four_times(ground, contrary, one), (norm,) + NOUGHT[1:])

    def test_norms_of_nought(self):
        for ground in GROUNDS:
            self.assertEqual(norm_of(ground, NOUGHT), (0, 1))
            for four in fours_of_norm_nought(ground):
                self.assertEqual(norm_of(ground, four), (0, 1))

    def test_many_figures(self):
        numbers = wide_numbers(221, 8, 300)
        one, other = tuple(numbers[:4]), tuple(numbers[4:])
        self.assertEqual(four_times(0, one, other), plain_times(0, one, other))
        self.assertEqual(norm_of(0, one), plain_norm(0, one))


class Turns(unittest.TestCase):
    def assert_turn(self, ground, four):
        keeper = turn_of(ground, four)
        self.assertIs(type(keeper), Keeper)
        self.assertEqual(keeper.form, squares(ground, 3))
        contrary = plain_contrary(ground, four)
        rows = [between(ground, four, ((0, 1),) + row, contrary) for row in ones(3)]
        self.assertEqual([row[0] for row in rows], [(0, 1)] * 3)
        self.assertEqual(keeper.table, tuple(row[1:] for row in rows))
        self.assertEqual(keeper.hand(), 1)
        return keeper

    def test_any(self):
        random = Random(222)
        for ground in GROUNDS:
            factors = [x for x in small_numbers(ground) if x[0]]
            for step in range(25):
                one, other = some_four(random, ground), some_four(random, ground)
                turn, second = self.assert_turn(ground, one), self.assert_turn(ground, other)
                # A product leads a row through the other one's turn first, then through the one's.
                self.assertEqual(turn_of(ground, plain_times(ground, one, other)), second.then(turn))
                self.assertEqual(turn_of(ground, plain_contrary(ground, one)), turn.back())
                for factor in random.sample(factors, 2):
                    self.assertEqual(turn_of(ground, multiple(ground, one, factor)), turn)
                row = tuple(some_number(random, ground) for at in range(3))
                led = between(ground, one, ((0, 1),) + row, plain_contrary(ground, one))
                self.assertEqual(turn.of(row), led[1:])

    def test_the_order_of_a_product(self):
        i, one_and_j = ones(4)[1], wholes(0, (1, 0, 1, 0))[0]
        turn = turn_of(0, four_times(0, i, one_and_j))
        self.assertEqual(turn, turn_of(0, one_and_j).then(turn_of(0, i)))
        self.assertNotEqual(turn, turn_of(0, i).then(turn_of(0, one_and_j)))

    def test_known_ones(self):
        self.assertEqual(turn_of(four=ones(4)[0], ground=0), same(squares(0, 3)))
        self.assertEqual(turn_of(0, ones(4)[1]).table, wholes(0, (1, 0, 0), (0, -1, 0), (0, 0, -1)))
        # A quarter turn about the last letter: i is led to j.
        self.assertEqual(turn_of(0, wholes(0, (1, 0, 0, 1))[0]).table, wholes(0, (0, 1, 0), (-1, 0, 0), (0, 0, 1)))
        # All three letters go round.
        self.assertEqual(turn_of(5, wholes(5, (1, 1, 1, 1))[0]).table, wholes(5, (0, 1, 0), (0, 0, 1), (1, 0, 0)))
        self.assertEqual(
            turn_of(0, wholes(0, (2, 1, 0, 0))[0]).table, wholes(0, (1, 0, 0), (0, "3/5", "4/5"), (0, "-4/5", "3/5")),
        )

    def test_many_figures(self):
        numbers = wide_numbers(223, 4, 150)
        keeper = self.assert_turn(0, tuple(numbers))
        self.assertEqual(turn_of(0, four_of(keeper)), keeper)
        small = wholes(0, (1, 2, 3, 4))[0]
        self.assertEqual(turn_of(0, multiple(0, small, wide_numbers(224, 1, 590)[0])), turn_of(0, small))

    def test_no_fours(self):
        for ground in GROUNDS:
            for thing in no_fours(ground):
                self.assertIs(refusal(turn_of, ground, thing), NoFour)


class FourOf(unittest.TestCase):
    def assert_four_of(self, keeper):
        ground = keeper.form.ground
        four = four_of(keeper)
        self.assertIs(type(four), tuple)
        self.assertEqual(len(four), 4)
        self.assertNotEqual(plain_norm(ground, four), (0, 1))
        rows = [between(ground, four, ((0, 1),) + row, plain_contrary(ground, four))[1:] for row in ones(3)]
        self.assertEqual(tuple(rows), keeper.table)
        self.assertEqual(turn_of(ground, four), keeper)
        return four

    def test_of_turns(self):
        random = Random(225)
        for ground in GROUNDS:
            for step in range(20):
                four = some_four(random, ground)
                self.assertEqual(rank(ground, (four, self.assert_four_of(turn_of(ground, four)))), 1)

    def test_half_turns(self):
        random = Random(226)
        for ground in GROUNDS:
            fours = list(ones(4)[1:]) + list(wholes(ground, (0, 1, 1, 0), (0, 0, 1, -1), (0, -1, 0, 1), (0, 2, 1, 0)))
            fours += [((0, 1),) + some_four(random, ground)[1:] for step in range(10)]
            for four in fours:
                if plain_norm(ground, four) != (0, 1):
                    told = self.assert_four_of(turn_of(ground, four))
                    self.assertEqual(told[0], (0, 1))
                    self.assertEqual(rank(ground, (four, told)), 1)

    def test_of_mirrors(self):
        random = Random(227)
        for ground in GROUNDS:
            form = squares(ground, 3)
            self.assert_four_of(same(form))
            for many in (2, 4, 6):
                for step in range(6):
                    self.assert_four_of(made_of(form, some_mirrors(random, form, many)))

    def test_all_keepers_of_small_wheels(self):
        for wheel in (3, 5):
            found = set()
            for keeper, count in AllKeepers(squares(wheel, 3)).keepers():
                if keeper.hand() == 1:
                    found.add(self.assert_four_of(keeper))
                else:
                    self.assertIs(refusal(four_of, keeper), NoKeeper)
            self.assertEqual(len(found), wheel * (wheel * wheel - 1))

    def test_other_forms_ahead_of_other_hands(self):
        random = Random(228)
        for ground in GROUNDS:
            forms = sample_forms(ground) + [Form(wholes(ground, (1, 0, 0), (0, 1, 0), (0, 0, 2)), ground)]
            forms += [Form(wholes(ground, (2, 0, 0), (0, 2, 0), (0, 0, 2)), ground), squares(ground, 4)]
            forms += [Form(wholes(ground, (1, 0, 0), (0, 1, 0), (0, 0, -1)), ground), planes(ground, 3)]
            for form in forms:
                if form.table != ones(3):
                    for many in (0, 1, 2):
                        self.assertIs(refusal(four_of, made_of(form, some_mirrors(random, form, many))), NoForm)

    def test_hands(self):
        random = Random(229)
        for ground in GROUNDS:
            form = squares(ground, 3)
            self.assertIs(refusal(four_of, Keeper(form, contrary_ones(ground, 3))), NoKeeper)
            for many in (1, 3, 5):
                self.assertIs(refusal(four_of, made_of(form, some_mirrors(random, form, many))), NoKeeper)

    def test_many_figures(self):
        form = squares(0, 3)
        rows = [tuple((x, 1) for x in range(10 ** 60 + at, 10 ** 60 + 3 * at + 1, at)) for at in (1, 2, 3, 7)]
        self.assert_four_of(made_of(form, rows))


class DoubleTurns(unittest.TestCase):
    def assert_double_turn(self, ground, one, other):
        keeper = double_turn(ground, one, other)
        self.assertIs(type(keeper), Keeper)
        self.assertEqual(keeper.form, squares(ground, 4))
        self.assertEqual(keeper.table, tuple(between(ground, one, row, other) for row in ones(4)))
        self.assertEqual(keeper.hand(), 1)
        return keeper

    def test_any(self):
        random = Random(230)
        for ground in GROUNDS:
            for step in range(25):
                one, other = some_pair(random, ground)
                keeper = self.assert_double_turn(ground, one, other)
                self.assertEqual(double_turn(other=other, one=one, ground=ground), keeper)
                row = tuple(some_number(random, ground) for at in range(4))
                self.assertEqual(keeper.of(row), between(ground, one, row, other))
                contraries = (plain_contrary(ground, one), plain_contrary(ground, other))
                self.assertEqual(double_turn(ground, *contraries), keeper.back())
                for factor in ((2, 1), expected(ground, -1)):
                    multiples = (multiple(ground, one, factor), multiple(ground, other, factor))
                    self.assertEqual(double_turn(ground, *multiples), keeper)

    def test_a_four_and_its_contrary(self):
        random = Random(231)
        for ground in GROUNDS:
            four = some_four(random, ground)
            keeper = self.assert_double_turn(ground, four, plain_contrary(ground, four))
            self.assertEqual(keeper.table[0], ones(4)[0])
            self.assertEqual(tuple(row[1:] for row in keeper.table[1:]), turn_of(ground, four).table)

    def test_known_ones(self):
        one, i, j, k = ones(4)
        self.assertEqual(double_turn(0, one, one), same(squares(0, 4)))
        self.assertEqual(double_turn(0, one, multiple(0, one, (-1, 1))).table, contrary_ones(0, 4))
        self.assertEqual(double_turn(0, i, one).table, (i, multiple(0, one, (-1, 1)), k, multiple(0, j, (-1, 1))))
        self.assertEqual(double_turn(0, one, i).table, (i, multiple(0, one, (-1, 1)), multiple(0, k, (-1, 1)), j))

    def test_norms_that_are_no_squares(self):
        one, other = wholes(0, (1, 1, 0, 1), (0, 1, -1, 1))
        self.assert_double_turn(0, one, other)
        for wheel in WHEELS:
            for two in (wholes(wheel, (1, 1, 0, 0), (0, 0, 1, 1)), wholes(wheel, (2, 1, 1, 1), (1, 1, 1, 2))):
                if plain_norm(wheel, two[0]) != (0, 1):
                    self.assert_double_turn(wheel, *two)

    def test_no_fours(self):
        for ground in GROUNDS:
            right = ones(4)[0]
            for thing in no_fours(ground):
                for arguments in ((thing, right), (right, thing), (thing, thing)):
                    self.assertIs(refusal(double_turn, ground, *arguments), NoFour)

    def test_unlike_norms(self):
        random = Random(232)
        for ground in GROUNDS:
            found = 0
            while found < 20:
                one, other = some_four(random, ground), some_four(random, ground)
                if plain_norm(ground, one) != plain_norm(ground, other):
                    self.assertIs(refusal(double_turn, ground, one, other), NoFour)
                    found += 1
        one = ones(4)[0]
        for factor in ((2, 1), (1, 2), (3, 1)):
            self.assertIs(refusal(double_turn, 0, one, multiple(0, one, factor)), NoFour)

    def test_many_figures(self):
        one, other = tuple(wide_numbers(233, 4, 50)), tuple(wide_numbers(234, 4, 50))
        pair = (plain_times(0, one, other), plain_times(0, other, one))
        keeper = double_turn(0, *pair)
        self.assertEqual(keeper.table, tuple(between(0, pair[0], row, pair[1]) for row in ones(4)))
        self.assertEqual(double_turn(0, *pair_of(keeper)), keeper)


class PairOf(unittest.TestCase):
    def assert_pair_of(self, keeper):
        ground = keeper.form.ground
        told = pair_of(keeper)
        self.assertIs(type(told), tuple)
        one, other = told
        for four in told:
            self.assertIs(type(four), tuple)
            self.assertEqual(len(four), 4)
        self.assertEqual(plain_norm(ground, one), plain_norm(ground, other))
        self.assertNotEqual(plain_norm(ground, one), (0, 1))
        self.assertEqual(tuple(between(ground, one, row, other) for row in ones(4)), keeper.table)
        self.assertEqual(double_turn(ground, one, other), keeper)

    def test_of_double_turns(self):
        random = Random(235)
        for ground in GROUNDS:
            for step in range(20):
                self.assert_pair_of(double_turn(ground, *some_pair(random, ground)))

    def test_of_units(self):
        for ground in GROUNDS:
            for one in ones(4):
                for other in ones(4):
                    self.assert_pair_of(double_turn(ground, one, other))

    def test_of_mirrors(self):
        random = Random(236)
        for ground in GROUNDS:
            form = squares(ground, 4)
            for many in (0, 2, 4, 6):
                for step in range(5):
                    self.assert_pair_of(made_of(form, some_mirrors(random, form, many)))

    def test_all_contrary(self):
        for ground in GROUNDS:
            self.assert_pair_of(Keeper(squares(ground, 4), contrary_ones(ground, 4)))

    def test_only_rows_of_worth_nought(self):
        """On a wheel four squares have keepers whose moved space isn't bare and has only rows of worth nought."""
        for wheel in WHEELS:
            form = squares(wheel, 4)
            found = 0
            for keeper in self.left_shifts(wheel):
                moved = keeper.moved()
                worths = {plain_pair(form, one, other) for one in moved for other in moved}
                self.assertEqual((len(moved), worths), (2, {(0, 1)}))
                self.assert_pair_of(keeper)
                found += 1
            self.assertGreater(found, 1)

    def left_shifts(self, wheel):
        """The double turns by 1 and a four of norm 1, whose parts other than the first have worth nought."""
        for b, c, d in [(b, c, d) for b in (1, 2) for c in range(wheel) for d in range(wheel)]:
            if (b * b + c * c + d * d) % wheel == 0:
                yield double_turn(wheel, ((1, 1), (b, 1), (c, 1), (d, 1)), ones(4)[0])

    def test_all_keepers_of_four_squares_by_three(self):
        keepers = [keeper for keeper, count in AllKeepers(squares(3, 4)).keepers() if keeper.hand() == 1]
        self.assertEqual(len(keepers), 576)
        for keeper in keepers:
            self.assertEqual(double_turn(3, *pair_of(keeper=keeper)), keeper)

    def test_other_forms_ahead_of_other_hands(self):
        random = Random(237)
        for ground in GROUNDS:
            forms = sample_forms(ground) + [squares(ground, 3), planes(ground, 4)]
            forms += [Form(wholes(ground, (1, 0, 0, 0), (0, 1, 0, 0), (0, 0, 1, 0), (0, 0, 0, 2)), ground)]
            forms += [Form(wholes(ground, (2, 0, 0, 0), (0, 2, 0, 0), (0, 0, 2, 0), (0, 0, 0, 2)), ground)]
            for form in forms:
                if form.table != ones(4):
                    for many in (0, 1, 2):
                        self.assertIs(refusal(pair_of, made_of(form, some_mirrors(random, form, many))), NoForm)

    def test_hands(self):
        random = Random(238)
        for ground in GROUNDS:
            form = squares(ground, 4)
            self.assertIs(refusal(pair_of, mirror(form, ones(4)[2])), NoKeeper)
            for many in (1, 3, 5):
                self.assertIs(refusal(pair_of, made_of(form, some_mirrors(random, form, many))), NoKeeper)


if __name__ == "__main__":
    unittest.main()
