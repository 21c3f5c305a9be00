"""Points 74 and 75: plans."""

import unittest

from counthall.doubts import AtMost
from counthall.errors import InvalidPlan
from counthall.plans import Plan, told_hall
from tests.plain import check_part

LIMITS = [(0, 1, 5), (2, 1, 3)]
ASKINGS = [(0, 2, 1, 2), (1, 1, 0, 1)]


class PlanTest(unittest.TestCase):
    def check_refused(self, part, *arguments):
        check_part(self, InvalidPlan, part, Plan, *arguments)

    def test_attributes(self):
        plan = Plan(3, LIMITS, ASKINGS)
        self.assertEqual(plan.size, 3)
        self.assertEqual(plan.limits, ((0, 1, 5), (2, 1, 3)))
        self.assertEqual(plan.askings, ((0, 2, 1, 2), (1, 1, 0, 1)))
        self.assertEqual(plan.weights, (2, 1))

    def test_a_copy_is_kept(self):
        limits, askings = [list(limit) for limit in LIMITS], list(ASKINGS)
        plan = Plan(3, limits, askings)
        limits[0][2] = 99
        askings.clear()
        self.assertEqual((plan.limits, plan.askings), (tuple(LIMITS), tuple(ASKINGS)))
        same = Plan(3, tuple(LIMITS), tuple(ASKINGS))
        self.assertEqual((same.limits, same.askings, same.weights), (plan.limits, plan.askings, plan.weights))

    def test_one_node_without_limits(self):
        for askings in ([], [(0, 0, 0, 1)] * 8):
            plan = Plan(1, [], askings)
            self.assertEqual((plan.limits, plan.askings), ((), tuple(askings)))
            self.assertEqual(plan.weights, (1,) * len(askings))

    def test_size(self):
        for size in (0, -1, 17, 10 ** 9):
            self.check_refused("size", size, [], [])
            self.check_refused("size", size, [(0, 1, -1)], [(0, 99, -1, 0)])
        for size in (2, 16):
            Plan(size, [(node - 1, node, 0) for node in range(1, size)], [])

    def test_limits(self):
        for limits in [
            [(0, 1, 5)], [*LIMITS, (0, 2, 9)], [], [(0, 1, 5), (1, 3, 3)], [(0, 1, 5), (-1, 2, 3)],
            [(0, 1, 5), (1, 2, -1)], [(0, 1, 5), (1, 0, 5)], [(0, 1, 5), (2, 2, 3)], [(1, 2, 5), (2, 1, 3)],
        ]:
            self.check_refused("limits", 3, limits, ASKINGS)
            self.check_refused("limits", 3, limits, [(0, 99, -1, 0)])
        self.check_refused("limits", 1, [(0, 0, 3)], [])
        self.check_refused("limits", 4, [(0, 1, 5), (2, 3, 5), (3, 2, 5)], [])
        Plan(3, [(0, 1, 0), (2, 0, 10 ** 12 - 1)], [])
        Plan(4, [(3, 2, 5), (2, 1, 5), (1, 0, 5)], [])

    def test_askings(self):
        for asking in [
            (0, 3, 1, 1), (-1, 0, 1, 1), (3, 3, 1, 1), (0, 1, -1, 1), (0, 1, 1, 0), (0, 1, 1, 100), (0, 1, 1, -4),
        ]:
            self.check_refused("askings", 3, LIMITS, [asking])
            self.check_refused("askings", 3, LIMITS, [*ASKINGS, asking])
        Plan(3, LIMITS, [(0, 1, 0, 1), (2, 0, 10 ** 12 - 1, 99)])

    def test_eight_and_nine_askings(self):
        Plan(3, LIMITS, [(0, 2, 1, 2)] * 8)
        self.check_refused("askings", 3, LIMITS, [(0, 2, 1, 2)] * 9)


class ToldHallTest(unittest.TestCase):
    def test_the_hall(self):
        doubt = AtMost(1)
        for telling in ([(3, 4), (-2, -2)], ((3, 4), (-2, -2))):
            hall = told_hall(Plan(3, LIMITS, ASKINGS), telling, doubt)
            self.assertEqual(hall.frame.size, 3)
            self.assertEqual(hall.frame.rules, ((0, 1, 0, 5), (2, 1, 0, 3)))
            self.assertEqual([claim.parts() for claim in hall.claims], [(0, 2, 3, 4, 2), (1, 1, -2, -2, 1)])
            self.assertEqual(hall.weights, (2, 1))
            self.assertIs(hall.doubt, doubt)

    def test_no_askings(self):
        hall = told_hall(Plan(1, [], []), [], AtMost(0))
        self.assertEqual((hall.frame.size, hall.frame.rules, hall.claims), (1, (), ()))
        self.assertTrue(hall.fits([0]))

    def test_far_numbers(self):
        far = 10 ** 12 - 1
        hall = told_hall(Plan(2, [(0, 1, far)], [(1, 0, 0, 9)]), [(-far, -far)], AtMost(0))
        self.assertTrue(hall.fits([0, far]))
        self.assertFalse(hall.fits([0, far - 1]))


if __name__ == "__main__":
    unittest.main()
