"""The errors of the program, those that later stages raise among them."""

import inspect
import unittest

from wovenframes import errors

FIELDS = {
    "BadBoard": (), "BadCells": (), "BadRow": (), "BadColumn": (), "BadSign": (), "BadThread": (), "BadLot": (),
    "NotClosed": (), "NotLifting": (), "BadLoad": (), "BadStrengths": (), "BadPrices": (), "TooMany": ("most",),
    "BadBreak": (), "BadLog": ("index",), "BadMost": (), "BadMany": (), "NoBreak": (),
    "InvalidText": ("line", "word"), "BadDeeds": ("index",), "BadNumber": (), "TooHeavy": (), "BadAngle": (),
    "BadMotion": (), "BadHeights": ("index",), "TooHigh": (), "BadPlace": (), "BadLiftOrder": (), "BadLines": (),
    "BadLots": ("index",), "BadPicture": (), "BadColours": (), "NotShown": (), "BadShared": (), "BadJoin": (),
    "EmptyLot": (), "BadThreads": (), "BadState": (), "BadBuilder": (), "BadDeed": (), "BadOrder": ("index",),
    "BadBuilders": ("builder", "place"),
}


class Errors(unittest.TestCase):
    def test_the_base_class(self):
        self.assertEqual(errors.WovenError.__bases__, (ValueError,))

    def test_there_are_just_these(self):
        there = [name for name, kind in vars(errors).items() if inspect.isclass(kind)]
        self.assertEqual(sorted(there), sorted([*FIELDS, "WovenError"]))

    def test_each_is_a_direct_subclass_defined_here(self):
        for name in FIELDS:
            with self.subTest(name=name):
                kind = getattr(errors, name)
                self.assertEqual(kind.__bases__, (errors.WovenError,))
                self.assertEqual(kind.__module__, "wovenframes.errors")
                self.assertEqual(kind.__name__, name)

    def test_fields_by_place_and_by_name(self):
        for name, fields in FIELDS.items():
            with self.subTest(name=name):
                kind = getattr(errors, name)
                worths = [3 + at for at in range(len(fields))]
                wanted = dict(zip(fields, worths))
                self.assertEqual(vars(kind(*worths)), wanted)
                self.assertEqual(vars(kind(**wanted)), wanted)

    def test_fields_may_be_none(self):
        self.assertIsNone(errors.BadLots(None).index)
        error = errors.BadBuilders(builder=1, place=None)
        self.assertEqual((error.builder, error.place), (1, None))

    def test_raised_and_caught_as_what_they_are(self):
        for name, fields in FIELDS.items():
            with self.subTest(name=name):
                with self.assertRaises(ValueError) as caught:
                    raise getattr(errors, name)(*[0 for _ in fields])
                self.assertIsInstance(caught.exception, errors.WovenError)
                self.assertIsInstance(str(caught.exception), str)


if __name__ == "__main__":
    unittest.main()
