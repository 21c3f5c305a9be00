"""Point 5, and the errors of the interface."""

import unittest

from counthall import errors
from counthall.errors import HallError

WITH_PART = ["InvalidFrame", "InvalidClaim", "InvalidDoubt", "InvalidPlan"]
WITH_INDEX = ["NoSuchNode", "BrokenChain", "NotSuspect"]
PLAIN = ["NoWorld", "NoSuspect", "DeskFull", "NothingToUndo", "NothingToRedo"]
OTHERS = ["Clash", "Contradiction", "UnknownEntry", "BadText"]


class ErrorsTest(unittest.TestCase):
    def test_all_stand_directly_below_hall_error(self):
        self.assertEqual(HallError.__bases__, (ValueError,))
        for name in WITH_PART + WITH_INDEX + PLAIN + OTHERS:
            self.assertEqual(getattr(errors, name).__bases__, (HallError,), name)

    def test_there_are_no_other_errors(self):
        defined = {name for name, value in vars(errors).items() if isinstance(value, type)}
        self.assertEqual(defined, {"HallError", *WITH_PART, *WITH_INDEX, *PLAIN, *OTHERS})

    def test_part(self):
        for name in WITH_PART:
            self.assertEqual(getattr(errors, name)("size").part, "size")

    def test_index(self):
        for name in WITH_INDEX:
            self.assertEqual(getattr(errors, name)(3).index, 3)

    def test_other_attributes(self):
        ring = [("claim", 0, "up")]
        clash = errors.Clash(2, ring)
        self.assertEqual((clash.start, clash.ring), (2, [("claim", 0, "up")]))
        ring.append(("rule", 0, "up"))
        self.assertEqual(clash.ring, [("claim", 0, "up")])
        numbers = [1, 4]
        contradiction = errors.Contradiction(numbers)
        numbers.append(5)
        self.assertEqual(contradiction.numbers, [1, 4])
        self.assertEqual(errors.UnknownEntry(7).number, 7)
        self.assertEqual(errors.BadText(9).line, 9)

    def test_every_error_is_caught_as_value_error(self):
        for name in PLAIN:
            with self.assertRaises(ValueError):
                raise getattr(errors, name)("words")


if __name__ == "__main__":
    unittest.main()
