"""Point 9: claims."""

import unittest

from counthall.claims import Claim
from counthall.errors import InvalidClaim
from tests.plain import check_part, seeded


class ClaimTest(unittest.TestCase):
    def test_examples(self):
        self.assertEqual(Claim(0, 2, 3, 5).excess([0, 1, 9]), 4)
        self.assertEqual(Claim(0, 2, 3).turned().parts(), (2, 0, None, -3, 1))

    def test_attributes(self):
        claim = Claim(3, 15, -2, 7, weight=99)
        self.assertEqual((claim.first, claim.second, claim.low, claim.high, claim.weight), (3, 15, -2, 7, 99))
        self.assertEqual(claim.parts(), (3, 15, -2, 7, 99))
        self.assertEqual(Claim(0, 1).parts(), (0, 1, None, None, 1))
        self.assertIsInstance(claim.parts(), tuple)

    def test_bounds_none_one_or_both(self):
        levels = [0, 4]
        for low, high, holds, excess in [
            (None, None, True, 0), (4, None, True, 0), (5, None, False, 1), (None, 4, True, 0),
            (None, 1, False, 3), (4, 4, True, 0), (0, 3, False, 1), (6, 9, False, 2), (0, 0, False, 4),
        ]:
            claim = Claim(0, 1, low, high)
            self.assertIs(claim.holds(levels), holds)
            self.assertEqual(claim.excess(levels), excess)
            self.assertIs(claim.holds((0, 4)), holds)

    def test_direction(self):
        self.assertTrue(Claim(1, 0, -4, -4).holds([0, 4]))
        self.assertFalse(Claim(0, 1, -4, -4).holds([0, 4]))

    def test_claim_about_nothing(self):
        self.assertTrue(Claim(2, 2, 0, 0).holds([0, 5, 7]))
        self.assertTrue(Claim(2, 2, -1, None).holds([0, 5, 7]))
        self.assertFalse(Claim(2, 2, 1, None).holds([0, 5, 7]))
        self.assertEqual(Claim(2, 2, 3, 8).excess([0, 5, 7]), 3)
        self.assertEqual(Claim(2, 2, -8, -3).excess([0, 5, 7]), 3)

    def test_turned(self):
        self.assertEqual(Claim(1, 4, -2, 5, weight=3).turned().parts(), (4, 1, -5, 2, 3))
        self.assertEqual(Claim(1, 4, None, 5).turned().parts(), (4, 1, -5, None, 1))
        self.assertEqual(Claim(1, 4, 0, None).turned().parts(), (4, 1, None, 0, 1))
        self.assertEqual(Claim(1, 4).turned().parts(), (4, 1, None, None, 1))
        random = seeded(9)
        for _ in range(200):
            low = random.randint(-4, 4)
            claim = Claim(random.randrange(3), random.randrange(3), low, low + random.randrange(4))
            levels = [0, random.randint(-4, 4), random.randint(-4, 4)]
            self.assertEqual(claim.excess(levels), claim.turned().excess(levels))
            self.assertEqual(claim.turned().turned().parts(), claim.parts())

    def test_widened(self):
        claim = Claim(1, 4, -2, 5, weight=3)
        self.assertEqual(claim.widened(4).parts(), (1, 4, -6, 9, 3))
        self.assertEqual(claim.widened(0).parts(), claim.parts())
        self.assertEqual(claim.parts(), (1, 4, -2, 5, 3))
        self.assertEqual(Claim(1, 4, None, 5).widened(2).parts(), (1, 4, None, 7, 1))
        self.assertEqual(Claim(1, 4, 5).widened(2).parts(), (1, 4, 3, None, 1))
        far = 10 ** 11
        self.assertEqual(Claim(0, 1, -10 ** 9, 10 ** 9).widened(far).parts(), (0, 1, -10 ** 9 - far, 10 ** 9 + far, 1))

    def test_wrong_nodes(self):
        for nodes in [(-1, 0), (0, -1), (16, 0), (0, 16)]:
            check_part(self, InvalidClaim, "nodes", Claim, *nodes)
        self.assertEqual(Claim(15, 15).parts(), (15, 15, None, None, 1))

    def test_wrong_bounds(self):
        check_part(self, InvalidClaim, "bounds", Claim, 0, 1, 3, 2)
        check_part(self, InvalidClaim, "bounds", Claim, 0, 0, 1, 0)
        Claim(0, 1, 3, 3)
        Claim(0, 1, 3, None)
        Claim(0, 1, None, -3)

    def test_wrong_weight(self):
        for weight in (0, -1, 100):
            check_part(self, InvalidClaim, "weight", Claim, 0, 1, weight=weight)

    def test_first_wrong_part_counts(self):
        check_part(self, InvalidClaim, "nodes", Claim, 0, 16, 3, 2, weight=0)
        check_part(self, InvalidClaim, "bounds", Claim, 0, 15, 3, 2, weight=0)

    def test_weight_is_passed_by_keyword(self):
        with self.assertRaises(TypeError):
            Claim(0, 1, 2, 3, 4)


if __name__ == "__main__":
    unittest.main()
