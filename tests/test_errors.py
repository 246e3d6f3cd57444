"""The refusals: what each stands under, what it is made of, and its fields."""

import unittest

from fewmirrors import errors

OF_A_TEXT = (
    "NoGround", "NoNumber", "NoRow", "NoTable", "NoForm", "NoKeeper", "NoWorth", "NoSeat", "NoFour", "NoPlace",
    "NoClaim", "NoText", "NoSaying", "TooMany",
)
BASES = {
    "MirrorError": ValueError, "NotKept": errors.MirrorError, "OverNought": ZeroDivisionError,
    "Flat": ArithmeticError, "NoName": LookupError,
}
BASES.update({name: errors.MirrorError for name in OF_A_TEXT})


class Classes(unittest.TestCase):
    def test_each_stands_straight_under_its_base_alone(self):
        for name, base in BASES.items():
            with self.subTest(name):
                self.assertEqual(getattr(errors, name).__bases__, (base,))
                self.assertEqual(getattr(errors, name).__name__, name)

    def test_no_other_class_is_there(self):
        there = {name for name, value in vars(errors).items() if isinstance(value, type)}
        self.assertEqual(there, set(BASES))

    def test_none_stands_under_another_one(self):
        for name in BASES:
            for other in BASES:
                if other not in (name, "MirrorError"):
                    self.assertFalse(issubclass(getattr(errors, name), getattr(errors, other)), (name, other))

    def test_those_beside_are_no_mirror_errors(self):
        for name in ("OverNought", "Flat", "NoName"):
            self.assertFalse(issubclass(getattr(errors, name), errors.MirrorError))
        self.assertFalse(issubclass(errors.NoName, KeyError))
        self.assertFalse(issubclass(errors.Flat, ZeroDivisionError))


class Fields(unittest.TestCase):
    def test_made_of_a_text(self):
        for name in ("MirrorError",) + OF_A_TEXT:
            with self.subTest(name):
                self.assertEqual(str(getattr(errors, name)("why it is so")), "why it is so")

    def test_not_kept(self):
        for error in (errors.NotKept(1, 3), errors.NotKept(one=1, other=3), errors.NotKept(other=3, one=1)):
            self.assertEqual((error.one, error.other), (1, 3))
            self.assertIsInstance(str(error), str)

    def test_over_nought(self):
        self.assertEqual(errors.OverNought((-1, 2)).top, (-1, 2))
        self.assertEqual(errors.OverNought(top=(4, 1)).top, (4, 1))
        long = (10 ** 5000, 1)
        self.assertEqual(errors.OverNought(long).top, long)

    def test_flat(self):
        self.assertEqual(errors.Flat(0).rank, 0)
        self.assertEqual(errors.Flat(rank=4).rank, 4)

    def test_no_name(self):
        self.assertEqual(errors.NoName("bob").name, "bob")
        self.assertEqual(errors.NoName(name="").name, "")

    def test_two_errors_have_nothing_in_common(self):
        one, other = errors.Flat(1), errors.Flat(2)
        self.assertEqual((one.rank, other.rank), (1, 2))

    def test_raised_and_caught(self):
        with self.assertRaises(ValueError) as caught:
            raise errors.NotKept(0, 2)
        self.assertEqual((caught.exception.one, caught.exception.other), (0, 2))
        with self.assertRaises(ZeroDivisionError) as caught:
            raise errors.OverNought((0, 1))
        self.assertEqual(caught.exception.top, (0, 1))


if __name__ == "__main__":
    unittest.main()
