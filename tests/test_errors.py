"""[2] and the interface's first entry: the refusals."""

import unittest

from asifalone import errors

NAMES = (
    "NoDealing", "NoDealings", "NoText", "NoLevel", "NoLevels", "NoOrder", "NoNumber", "NoWeaving", "NoBox",
    "Barred", "NoTie", "NoCut", "NoPlaces", "NoRoom", "TooMany", "NoProgram", "NoPrograms", "NoKeys",
    "NoCasts", "NoStep",
)


class Refusals(unittest.TestCase):
    def test_there_are_these_twenty_and_no_others(self):
        self.assertEqual(len(set(NAMES)), 20)
        told = {name for name, worth in vars(errors).items() if isinstance(worth, type)}
        self.assertEqual(told, set(NAMES) | {"AloneError"})

    def test_each_stands_straight_under_alone_error(self):
        self.assertEqual(errors.AloneError.__bases__, (ValueError,))
        for name in NAMES:
            with self.subTest(name=name):
                self.assertEqual(getattr(errors, name).__bases__, (errors.AloneError,))

    def test_none_stands_under_another(self):
        for name in NAMES:
            for other in NAMES:
                under = issubclass(getattr(errors, name), getattr(errors, other))
                self.assertEqual(under, name == other, (name, other))

    def test_each_is_defined_in_this_file(self):
        for name in NAMES + ("AloneError",):
            self.assertEqual(getattr(errors, name).__module__, "asifalone.errors")
            self.assertEqual(getattr(errors, name).__name__, name)

    def test_fields(self):
        self.assertEqual(errors.NoWeaving(7).place, 7)
        self.assertEqual(errors.NoWeaving(place=-1).place, -1)
        barred = errors.Barred(3, "held", 1)
        self.assertEqual((barred.place, barred.why, barred.by), (3, "held", 1))

    def test_each_can_be_raised_and_caught_as_any_refusal(self):
        for name in NAMES:
            given = {"NoWeaving": (0,), "Barred": (0, "late", 2)}.get(name, ("why",))
            with self.assertRaises(errors.AloneError) as caught:
                raise getattr(errors, name)(*given)
            self.assertIsInstance(str(caught.exception), str)


if __name__ == "__main__":
    unittest.main()
