"""Point 28: halls."""

import unittest

from counthall.claims import Claim
from counthall.doubts import AtMost, Lots, Within
from counthall.errors import NoSuchNode
from counthall.halls import Hall
from counthall.readings import row_frame
from tests.plain import check_call, claim_holds, random_claim, random_doubt, random_frame, rule_holds, seeded

FRAME = row_frame([9, 9])
CLAIMS = [Claim(0, 1, 4, 4, weight=2), Claim(0, 2, 8), Claim(0, 1, 7, 7, weight=3)]


class HallTest(unittest.TestCase):
    def test_attributes(self):
        doubt = Within(3)
        hall = Hall(FRAME, CLAIMS, doubt=doubt)
        self.assertIs(hall.frame, FRAME)
        self.assertEqual(hall.claims, tuple(CLAIMS))
        self.assertEqual(hall.weights, (2, 1, 3))
        self.assertIs(hall.doubt, doubt)

    def test_no_doubt_stands_for_at_most_none(self):
        for hall in (Hall(FRAME, CLAIMS), Hall(FRAME, CLAIMS, doubt=None)):
            self.assertIsInstance(hall.doubt, AtMost)
            self.assertEqual(hall.doubt.count, 0)

    def test_no_claims(self):
        hall = Hall(FRAME, [])
        self.assertEqual((hall.claims, hall.weights), ((), ()))
        self.assertEqual(check_call(self, hall.untrue, [0, 5, 5]), [])
        self.assertTrue(hall.fits([0, 5, 5]))

    def test_the_same_claim_at_several_places(self):
        hall = Hall(FRAME, [CLAIMS[0], CLAIMS[0]], doubt=AtMost(1))
        self.assertEqual(hall.untrue([0, 5, 5]), [0, 1])
        self.assertFalse(hall.fits([0, 5, 5]))

    def test_many_claims(self):
        self.assertEqual(len(Hall(FRAME, CLAIMS * 13 + CLAIMS[:1]).claims), 40)

    def test_untrue_and_fits(self):
        hall = Hall(FRAME, CLAIMS, doubt=Lots([[0], [1, 2]]))
        self.assertEqual(check_call(self, hall.untrue, [0, 4, 7]), [1, 2])
        self.assertEqual(check_call(self, hall.untrue, [5, 9, 20]), [2])
        self.assertIs(check_call(self, hall.fits, [0, 4, 7]), True)
        self.assertIs(check_call(self, hall.fits, [0, 7, 9]), True)
        self.assertIs(check_call(self, hall.fits, [0, 5, 9]), False)
        self.assertIs(check_call(self, hall.fits, [0, 7, 7]), False)

    def test_fits_takes_lists_of_any_length(self):
        hall = Hall(FRAME, CLAIMS, doubt=AtMost(3))
        self.assertTrue(hall.fits([0, 5, 5]))
        for levels in [[], [0], [0, 5], [0, 5, 5, 5], [1, 5, 5], [0, 10, 10]]:
            self.assertIs(check_call(self, hall.fits, levels), False)

    def test_no_such_node(self):
        for claims, index in [([Claim(0, 3)], 0), ([Claim(0, 2), Claim(3, 0), Claim(9, 9)], 1)]:
            with self.assertRaises(NoSuchNode) as caught:
                Hall(FRAME, claims)
            self.assertEqual(caught.exception.index, index)

    def test_caller_changes_its_list(self):
        claims = list(CLAIMS)
        hall = Hall(FRAME, claims, doubt=AtMost(1))
        claims.append(Claim(0, 1, 9, 9))
        self.assertEqual(hall.claims, tuple(CLAIMS))
        self.assertEqual(hall.weights, (2, 1, 3))

    def test_against_a_plain_search(self):
        random = seeded(29)
        for _ in range(200):
            size = random.choice([1, 2, 3])
            frame = random_frame(random, size)
            claims = [random_claim(random, size) for _ in range(random.randrange(5))]
            hall = Hall(frame, claims, doubt=random_doubt(random, 2))
            self.assertEqual(Hall(frame, tuple(claims), doubt=hall.doubt).claims, hall.claims)
            for _ in range(10):
                levels = [random.choice([0, 0, 0, 1]), *[random.randint(-4, 4) for _ in range(size - 1)]]
                untrue = [index for index, claim in enumerate(claims) if not claim_holds(claim, levels)]
                self.assertEqual(check_call(self, hall.untrue, levels), untrue)
                world = levels[0] == 0 and all(rule_holds(rule, levels) for rule in frame.rules)
                self.assertEqual(hall.fits(levels), world and hall.doubt.allows(untrue, hall.weights))


if __name__ == "__main__":
    unittest.main()
