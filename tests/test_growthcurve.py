"""Points 69 and 70: growth against a bound, and curves of growth."""

import unittest

from counthall.claims import Claim
from counthall.errors import NoSuchNode
from counthall.frames import Frame
from counthall.growth import growth, least_growth
from counthall.growthcurve import growth_against, growth_curve
from counthall.readings import row_frame
from tests.plain import check_call, difference, seeded
from tests.test_growth import random_growing

ROW = row_frame([9])
PAIR = [Claim(0, 1, 2, 3), Claim(0, 1, 6, 6, weight=2)]


class AgainstTest(unittest.TestCase):
    def check_against(self, frame, claims, first, second, high, cases=None):
        answer = check_call(self, growth_against, frame, claims, first, second, high)
        if cases is not None:
            costs = [amount for amount, levels in cases if difference(levels, first, second) > high]
            self.assertEqual(None if answer is None else answer[0], min(costs, default=None))
        if answer is None:
            return None
        self.assertIsInstance(answer, tuple)
        cost, levels = answer
        self.assertTrue(frame.allows(levels))
        self.assertGreater(difference(levels, first, second), high)
        self.assertEqual(growth(claims, levels), cost)
        return cost

    def test_answers(self):
        for high, cost in [(-1, 3), (2, 3), (5, 3), (6, 6), (8, 12), (9, None), (10 ** 11, None)]:
            self.assertEqual(self.check_against(ROW, PAIR, 0, 1, high), cost)
        for high, cost in [(-10, 3), (-7, 3), (-6, 4), (-3, 8), (-1, 14), (0, None)]:
            self.assertEqual(self.check_against(ROW, PAIR, 1, 0, high), cost)

    def test_a_bound_that_no_world_exceeds(self):
        self.assertIsNone(self.check_against(ROW, [], 0, 1, 9))
        self.assertEqual(self.check_against(ROW, [], 0, 1, 8), 0)
        self.assertIsNone(self.check_against(ROW, [Claim(0, 1, 20)], 0, 1, 9))

    def test_one_node_twice(self):
        self.assertIsNone(self.check_against(ROW, PAIR, 1, 1, 0))
        self.assertEqual(self.check_against(ROW, PAIR, 1, 1, -1), 3)
        self.assertEqual(self.check_against(Frame(1, []), [Claim(0, 0, 2)], 0, 0, -10 ** 11), 2)

    def test_sixty_rules(self):
        frame = Frame(2, [(0, 1, 0, 9)] * 60)
        self.assertEqual(self.check_against(frame, PAIR, 0, 1, 7), 9)

    def test_random_claims(self):
        found = {True: 0, False: 0}
        for random, frame, claims, cases in random_growing(531, 120):
            first, second = random.randrange(frame.size), random.randrange(frame.size)
            for high in range(-5, 6):
                found[self.check_against(frame, claims, first, second, high, cases) is None] += 1
        self.assertGreater(min(found.values()), 100)


class CurveTest(unittest.TestCase):
    def check_curve(self, frame, claims, first, second, cases=None):
        answer = check_call(self, growth_curve, frame, claims, first, second)
        self.assertIsInstance(answer, tuple)
        low, costs = answer
        for before, here, after in zip(costs, costs[1:], costs[2:]):
            self.assertLessEqual(2 * here, before + after)
        for at in range(len(costs)):
            self.assertEqual(growth_against(frame, claims, first, second, low + at - 1)[0], min(costs[at:]))
        self.assertEqual(min(costs), least_growth(frame, claims)[0])
        if cases is not None:
            values = sorted({difference(levels, first, second) for _, levels in cases})
            self.assertEqual(values, list(range(low, low + len(costs))))
            for value, cost in zip(values, costs):
                plain = [amount for amount, levels in cases if difference(levels, first, second) == value]
                self.assertEqual(cost, min(plain))
        return answer

    def test_answers(self):
        self.assertEqual(self.check_curve(ROW, PAIR, 0, 1), (0, [14, 11, 8, 6, 5, 4, 3, 6, 9, 12]))
        self.assertEqual(self.check_curve(ROW, PAIR, 1, 0), (-9, [12, 9, 6, 3, 4, 5, 6, 8, 11, 14]))
        self.assertEqual(self.check_curve(ROW, [], 0, 1), (0, [0] * 10))

    def test_one_difference(self):
        self.assertEqual(self.check_curve(ROW, PAIR, 1, 1), (0, [3]))
        frame = Frame(3, [(0, 1, 4, 4), (1, 2, 0, 9)])
        self.assertEqual(self.check_curve(frame, [Claim(0, 1, 5), Claim(0, 2, 1, 3)], 0, 1), (4, [2]))
        self.assertEqual(self.check_curve(Frame(1, []), [], 0, 0), (0, [0]))

    def test_thirty_differences(self):
        random = seeded(532)
        frame = row_frame([10, 10, 9])
        for _ in range(5):
            claims = [
                Claim(*random.sample(range(4), 2), value, value + random.randint(0, 3), weight=random.randint(1, 5))
                for value in [random.randint(-20, 20) for _ in range(8)]
            ]
            low, costs = self.check_curve(frame, claims, 0, 3)
            self.assertEqual((low, len(costs)), (0, 30))

    def test_random_claims(self):
        for random, frame, claims, cases in random_growing(533, 120):
            first, second = random.randrange(frame.size), random.randrange(frame.size)
            self.check_curve(frame, claims, first, second, cases)


class NodesTest(unittest.TestCase):
    def test_nodes_that_the_frame_does_not_have(self):
        claims = [Claim(0, 1), Claim(2, 0)]
        for function, more in [(growth_against, [0, 1, 10 ** 6]), (growth_curve, [0, 1])]:
            with self.assertRaises(NoSuchNode) as caught:
                function(ROW, claims, *more)
            self.assertEqual(caught.exception.index, 1)


if __name__ == "__main__":
    unittest.main()
