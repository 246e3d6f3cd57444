"""Names, arguments and default values, as the document's interface tells them."""

import inspect
import unittest

from fewmirrors import (
    contraries, counting, desk, errors, exchanges, fewest, forms, fours, keepers, leading, lengths, lines, numbers,
    papers, seats, tables, texts,
)

FUNCTIONS = {
    numbers: {
        "is_ground": "(thing)", "is_number": "(ground, thing)", "number": "(ground, top, bottom=1)",
        "plus": "(ground, x, y)", "less": "(ground, x, y)", "times": "(ground, x, y)", "over": "(ground, x, y)",
        "is_square": "(ground, x)", "root_of": "(ground, x)", "show_number": "(x)",
    },
    tables: {
        "is_row": "(ground, thing, many)", "is_table": "(ground, thing, high, wide)",
        "through": "(ground, row, table)", "product": "(ground, one, other)", "turned": "(table)",
        "determinant": "(ground, table)", "back": "(ground, table)", "least_rows": "(ground, rows)",
        "nought_rows": "(ground, table)", "show_row": "(row)", "show_table": "(table)",
    },
    errors: {"NotKept": "(one, other)"},
    forms: {"Form": "(table, ground=0)"},
    keepers: {
        "Keeper": "(form, table)", "same": "(form)", "mirror": "(form, row)", "made_of": "(form, rows)",
    },
    leading: {"leading": "(form, row, other)", "led": "(form, row, other)"},
    seats: {"seats_of": "(keeper)", "keeper_of": "(form, rows, seats)"},
    fewest: {"least_count": "(keeper)", "mirrors_of": "(keeper)", "begun_by": "(keeper, row)"},
    exchanges: {"exchanged": "(form, rows, place)", "otherwise": "(form, row, other, first)"},
    lengths: {"length_class": "(keeper)", "are_alike": "(ground, x, y)"},
    contraries: {"contrary_of": "(keeper)", "keeper_by": "(form, table)", "signs_for": "(keeper)"},
    fours: {
        "four_times": "(ground, one, other)", "norm_of": "(ground, four)", "turn_of": "(ground, four)",
        "four_of": "(keeper)", "double_turn": "(ground, one, other)", "pair_of": "(keeper)",
    },
    lines: {"Line": "(form, rows=None)"},
    counting: {
        "keepers_on": "(form, wanted=None)", "how_many": "(form)", "by_count": "(form)", "ways_of": "(keeper)",
    },
    papers: {"holds": "(form, claim, paper)", "paper_of": "(form, claim)"},
    texts: {"read_form": "(text)", "read_keeper": "(text)"},
    desk: {"Desk": "(form)"},
}
METHODS = {
    forms.Form: {
        "worth": "(self, row)", "pair": "(self, row, other)", "upright": "(self, rows)", "frame": "(self)",
        "__eq__": "(self, other)", "__len__": "(self)", "__str__": "(self)", "__repr__": "(self)",
    },
    keepers.Keeper: {
        "of": "(self, row)", "then": "(self, other)", "back": "(self)", "hand": "(self)", "moved": "(self)",
        "still": "(self)", "__eq__": "(self, other)", "__len__": "(self)", "__str__": "(self)", "__repr__": "(self)",
    },
    lines.Line: {
        "put": "(self, row, front=False)", "take": "(self, front=False)", "rows": "(self)", "keeper": "(self)",
        "shorten": "(self)", "__eq__": "(self, other)", "__len__": "(self)", "__str__": "(self)", "__repr__": "(self)",
    },
    desk.Desk: {"say": "(self, row)"},
}


class Interface(unittest.TestCase):
    def test_arguments(self):
        for module, functions in FUNCTIONS.items():
            for name, arguments in functions.items():
                with self.subTest(name):
                    self.assertEqual(str(inspect.signature(getattr(module, name))), arguments)

    def test_methods_stand_in_their_classes_themselves(self):
        for kind, methods in METHODS.items():
            for name, arguments in methods.items():
                with self.subTest(f"{kind.__name__}.{name}"):
                    self.assertIn(name, vars(kind))
                    self.assertEqual(str(inspect.signature(vars(kind)[name])), arguments)

    def test_arguments_by_their_names(self):
        half, table = (1, 2), (((1, 1), (1, 2)), ((0, 1), (1, 1)))
        self.assertIs(numbers.is_ground(thing=5), True)
        self.assertIs(numbers.is_number(thing=half, ground=0), True)
        self.assertEqual(numbers.number(bottom=4, top=2, ground=0), half)
        self.assertEqual(numbers.plus(y=half, x=(2, 1), ground=0), (5, 2))
        self.assertEqual(numbers.less(y=half, x=(2, 1), ground=0), (3, 2))
        self.assertEqual(numbers.times(y=half, x=(3, 1), ground=0), (3, 2))
        self.assertEqual(numbers.over(y=half, x=(3, 1), ground=0), (6, 1))
        self.assertIs(numbers.is_square(x=half, ground=0), False)
        self.assertEqual(numbers.root_of(x=(1, 4), ground=0), half)
        self.assertEqual(numbers.show_number(x=half), "1/2")
        self.assertIs(tables.is_row(many=1, thing=(half,), ground=0), True)
        self.assertIs(tables.is_table(wide=2, high=1, thing=((half, half),), ground=0), True)
        self.assertEqual(tables.through(table=table, row=((2, 1), (0, 1)), ground=0), ((2, 1), (1, 1)))
        self.assertEqual(tables.product(other=table, one=((half, half),), ground=0), (((1, 2), (3, 4)),))
        self.assertEqual(tables.turned(table=((half, (1, 1)),)), ((half,), ((1, 1),)))
        self.assertEqual(tables.determinant(table=table, ground=0), (1, 1))
        self.assertEqual(tables.back(table=table, ground=0), (((1, 1), (-1, 2)), ((0, 1), (1, 1))))
        self.assertEqual(tables.least_rows(rows=((half,),), ground=0), (((1, 1),),))
        self.assertEqual(tables.nought_rows(table=((half,),), ground=0), ())
        self.assertEqual(tables.show_row(row=(half, half)), "1/2 1/2")
        self.assertEqual(tables.show_table(table=((half,), (half,))), "1/2 / 1/2")


if __name__ == "__main__":
    unittest.main()
