"""Points 29 and 30: which claims may be the untrue ones."""

import unittest

from counthall.claims import Claim
from counthall.doubts import AtMost, Lots, Within
from counthall.errors import NoWorld
from counthall.fitting import fitting_lots, least_lots, lightest_lot
from counthall.frames import Frame
from counthall.halls import Hall
from counthall.readings import row_frame
from tests.plain import (
    allowed_lots, check_call, maximal, minimal, random_claim, random_doubt, random_frame, seeded, worlds_of,
    worlds_with,
)


class FittingTest(unittest.TestCase):
    def test_example(self):
        claims = [Claim(0, 1, 4, 4), Claim(0, 1, 4, 4), Claim(0, 1, 7, 7)]
        hall = Hall(row_frame([9, 9]), claims, doubt=AtMost(1))
        self.assertEqual(check_call(self, least_lots, hall), [[2]])
        self.assertEqual(check_call(self, fitting_lots, hall), [[2]])
        self.assertEqual(check_call(self, lightest_lot, hall), (1, [2]))

    def test_no_claims(self):
        for hall in (Hall(row_frame([3]), []), Hall(Frame(1, []), [], doubt=AtMost(4))):
            self.assertEqual(check_call(self, fitting_lots, hall), [[]])
            self.assertEqual(check_call(self, least_lots, hall), [[]])
            self.assertEqual(check_call(self, lightest_lot, hall), (0, []))

    def test_no_world_fits(self):
        claims = [Claim(0, 1, 4, 4), Claim(0, 1, 5, 5), Claim(0, 1, 7, 7)]
        hall = Hall(row_frame([9]), claims, doubt=AtMost(1))
        self.assertEqual(check_call(self, fitting_lots, hall), [])
        self.assertEqual(check_call(self, least_lots, hall), [])
        with self.assertRaises(NoWorld):
            lightest_lot(hall)

    def test_claim_that_never_holds(self):
        hall = Hall(row_frame([9]), [Claim(1, 1, 2), Claim(0, 1, 3, 3), Claim(0, 1, 10)], doubt=AtMost(2))
        self.assertEqual(least_lots(hall), [[0, 2]])
        self.assertEqual(fitting_lots(hall), [[0, 2]])

    def test_lightest_is_the_first_of_the_lightest(self):
        claims = [Claim(0, 1, 2, 2, weight=3), Claim(0, 1, 4, 4, weight=2), Claim(0, 1, 4, 4)]
        hall = Hall(row_frame([9]), claims, doubt=Within(9))
        self.assertEqual(check_call(self, least_lots, hall), [[0], [1, 2]])
        self.assertEqual(check_call(self, lightest_lot, hall), (3, [0]))
        claims[0] = Claim(0, 1, 2, 2, weight=4)
        self.assertEqual(check_call(self, lightest_lot, Hall(row_frame([9]), claims, doubt=Within(9))), (3, [1, 2]))

    def test_lots_with_numbers_that_name_no_claim(self):
        claims = [Claim(0, 1, 2, 2), Claim(0, 1, 4, 4)]
        hall = Hall(row_frame([9]), claims, doubt=Lots([[1, 30], [31], [0]]))
        self.assertEqual(check_call(self, fitting_lots, hall), [[0], [1]])
        self.assertEqual(check_call(self, least_lots, hall), [[0], [1]])

    def test_against_a_plain_search(self):
        random = seeded(30)
        without = 0
        for _ in range(250):
            size = random.choice([1, 2, 3])
            frame = random_frame(random, size)
            claims = [random_claim(random, size) for _ in range(random.randrange(6))]
            hall = Hall(frame, claims, doubt=random_doubt(random, 3))
            worlds = worlds_of(frame, 4)
            allowed = allowed_lots(hall.doubt, hall.weights)
            rests = [[claim for index, claim in enumerate(claims) if index not in lot] for lot in allowed]
            possible = [lot for lot, rest in zip(allowed, rests) if worlds_with(worlds, rest)]
            largest = [lot for lot in maximal(allowed) if lot in possible]
            least = minimal(possible)
            self.assertEqual(check_call(self, fitting_lots, hall), largest)
            self.assertEqual(check_call(self, least_lots, hall), least)
            untrue = [hall.untrue(levels) for levels in worlds if hall.fits(levels)]
            self.assertEqual(bool(untrue), bool(least))
            if not least:
                without += 1
                with self.assertRaises(NoWorld):
                    lightest_lot(hall)
                continue
            weights = [sum(hall.weights[index] for index in lot) for lot in untrue]
            weight, lot = check_call(self, lightest_lot, hall)
            self.assertEqual(weight, min(weights))
            equal = [one for one in least if sum(hall.weights[index] for index in one) == weight]
            self.assertEqual(lot, equal[0])
            self.assertIn(lot, untrue)
        self.assertGreater(without, 30)


if __name__ == "__main__":
    unittest.main()
