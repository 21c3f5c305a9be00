"""Points 53 and 54: prices of counts."""

import unittest
from itertools import product

from counthall.budgets import cheapest_counts, curve, price, total_prices, totals_within
from counthall.claims import Claim
from counthall.doubts import Within
from counthall.estimates import untrue_weight
from counthall.halls import Hall
from counthall.holders import sum_range
from counthall.readings import count_claim, stand_frame
from counthall.runs import Runs
from tests.plain import all_counts, check_call, random_curves, random_estimates, seeded

TWO = [[0, 1, 2], [1, 0, 3]]


class CurveTest(unittest.TestCase):
    def test_answers(self):
        self.assertEqual(check_call(self, curve, [(1, 2, 3), (2, 9, 4)], 4), [7, 4, 0, 3, 3])
        self.assertEqual(check_call(self, curve, [(1, 2, 3)], 0), [3])
        self.assertEqual(check_call(self, curve, [(-4, 0, 3)], 0), [0])
        self.assertEqual(check_call(self, curve, [], 2), [0, 0, 0])

    def test_random_estimates(self):
        random = seeded(63)
        for _ in range(60):
            estimates = random_estimates(random, 5)
            room = random.randint(0, 40)
            costs = check_call(self, curve, estimates, room)
            self.assertEqual(costs, [untrue_weight(estimates, count) for count in range(room + 1)])

    def test_price(self):
        self.assertEqual(check_call(self, price, TWO, [2, 0]), 3)
        self.assertEqual(check_call(self, price, TWO, [0, 1]), 0)
        self.assertEqual(check_call(self, price, [], []), 0)


class TotalsTest(unittest.TestCase):
    def test_example(self):
        self.assertEqual(check_call(self, total_prices, TWO), [1, 0, 1, 2, 5])
        self.assertEqual(check_call(self, cheapest_counts, TWO, 2), [1, 1])

    def test_no_curves(self):
        self.assertEqual(check_call(self, total_prices, []), [0])
        self.assertEqual(check_call(self, cheapest_counts, [], 0), [])
        self.assertIsNone(check_call(self, cheapest_counts, [], 1))
        self.assertIsNone(check_call(self, cheapest_counts, [], -1))
        self.assertEqual(totals_within([], 0).pairs, ((0, 0),))
        self.assertEqual(totals_within([], -1).pairs, ())

    def test_sums_that_no_counts_have(self):
        for total in (-1, 5, -5, 10 ** 11, -10 ** 11):
            self.assertIsNone(check_call(self, cheapest_counts, TWO, total))
        self.assertEqual(cheapest_counts(TWO, 4), [2, 2])
        self.assertEqual(cheapest_counts(TWO, 0), [0, 0])

    def test_the_first_list_of_counts(self):
        flat = [[3, 3, 3], [0, 0, 0], [1, 1, 1]]
        self.assertEqual(check_call(self, cheapest_counts, flat, 2), [0, 0, 2])
        self.assertEqual(check_call(self, cheapest_counts, flat, 5), [1, 2, 2])
        self.assertEqual(cheapest_counts([[0, 0, 5], [9, 0, 0]], 2), [0, 2])

    def test_room_0(self):
        self.assertEqual(check_call(self, total_prices, [[4], [7]]), [11])
        self.assertEqual(check_call(self, cheapest_counts, [[4], [7]], 0), [0, 0])
        self.assertEqual(check_call(self, total_prices, [[4], [7, 1]]), [11, 5])

    def test_totals_within(self):
        answer = totals_within(TWO, 1)
        self.assertIsInstance(answer, Runs)
        self.assertEqual(answer.pairs, ((0, 2),))
        self.assertEqual(totals_within(TWO, 0).pairs, ((1, 1),))
        self.assertEqual(totals_within([[0, 9, 0, 9, 0]], 3).pairs, ((0, 0), (2, 2), (4, 4)))
        self.assertEqual(totals_within(TWO, -1).pairs, ())
        self.assertEqual(totals_within(TWO, 10 ** 11).pairs, ((0, 4),))

    def test_against_a_plain_search(self):
        random = seeded(64)
        for _ in range(150):
            curves = random_curves(random, random.randint(0, 4), 4)
            prices = {}
            for counts in all_counts(curves):
                cost = sum(costs[count] for costs, count in zip(curves, counts))
                self.assertEqual(price(curves, counts), cost)
                prices.setdefault(sum(counts), []).append((cost, counts))
            totals = check_call(self, total_prices, curves)
            self.assertEqual(totals, [min(prices[total])[0] for total in range(len(prices))])
            for total in range(-1, len(totals) + 1):
                counts = check_call(self, cheapest_counts, curves, total)
                if 0 <= total < len(totals):
                    # The first pair has the least price and, of those, the first list of counts.
                    self.assertEqual(counts, min(prices[total])[1])
                else:
                    self.assertIsNone(counts)
            limit = random.randint(0, 12)
            within = [total for total, cost in enumerate(totals) if cost <= limit]
            self.assertEqual(totals_within(tuple(curves), limit).pairs, Runs([(x, x) for x in within]).pairs)

    def test_claims_about_one_box_each(self):
        random = seeded(65)
        for _ in range(60):
            rooms = [random.randint(0, 4) for _ in range(3)]
            told = [
                (random.randrange(3), random.randint(-1, 4), random.randint(1, 4)) for _ in range(random.randint(0, 6))
            ]
            claims = [count_claim(box, value, value + 1, weight=weight) for box, value, weight in told]
            curves = [
                curve([(value, value + 1, weight) for other, value, weight in told if other == box], room)
                for box, room in enumerate(rooms)
            ]
            limit = random.randint(0, 9)
            hall = Hall(stand_frame(rooms), claims, doubt=Within(limit))
            sums = {sum(counts) for counts in product(*[range(room + 1) for room in rooms]) if hall.fits([0, *counts])}
            self.assertEqual(totals_within(curves, limit).pairs, Runs([(x, x) for x in sums]).pairs)
            if sums:
                self.assertEqual(sum_range(hall, [1, 2, 3]), (min(sums), max(sums)))

    def test_a_claim_about_nothing_costs_nothing(self):
        self.assertTrue(Hall(stand_frame([2]), [Claim(1, 1)]).fits([0, 2]))
        self.assertEqual(curve([(-9, 9, 5)], 2), [0, 0, 0])


if __name__ == "__main__":
    unittest.main()
