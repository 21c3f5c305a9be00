"""Point 99 for results, estimates, budgets, flows and comparisons."""

import unittest

from counthall.budgetranks import few_seats_price, lead_price, many_seats_price, rank_price
from counthall.budgets import cheapest_counts, curve, price, total_prices, totals_within
from counthall.claims import Claim
from counthall.comparisons import carried, group_strength, lesser_counts
from counthall.doubts import AtMost, Lots
from counthall.estimates import fused, fused_under, heaviest, middle_span, weight_pieces
from counthall.flows import flow_chains, greatest_flow
from counthall.frames import Frame
from counthall.grounds import against, grounds, holds_in
from counthall.halls import Hall
from counthall.ladders import accepts_ladders, ladders, least_clash
from counthall.seats import divide
from tests.hard import FAR, TimedTest, hard_doubts, hard_halls
from tests.plain import seeded

ALL = list(range(16))


class GroundsLimitsTest(TimedTest):
    def test_ranks_sums_and_groups(self):
        for hall, first, second in hard_halls(13):
            eight = Hall(hall.frame, hall.claims[:8], doubt=hall.doubt)
            for result in [
                ("rank", ALL, second, 8), ("sum", ALL, 3), ("sum", [second], 20), ("reaches", [first], second, -20),
                ("reaches", ALL, second, 1),
            ]:
                found = self.timed(grounds, eight, result)
                self.assertEqual(found is None, self.timed(against, eight, result) is not None)
                self.timed(holds_in, result, [0] * 16)

    def test_seats(self):
        random = seeded(14)
        holders = [3, 1, 4, 15, 9, 2]
        for doubt in [*hard_doubts(random), AtMost(3)]:
            rules = [(0, node, 0, 39) for node in range(1, 16)]
            pairs = [random.sample(range(1, 16), 2) for _ in range(45)]
            frame = Frame(16, [*rules, *[(*pair, -38, 38) for pair in pairs]])
            claims = [Claim(0, node, random.randint(0, 20), random.randint(20, 39)) for node in holders]
            hall = Hall(frame, claims, doubt=doubt)
            for step in (1, 9):
                for least in (0, 1, 2, 12):
                    result = ("seats", holders, 15, 12, step, least)
                    found = self.timed(grounds, hall, result)
                    self.assertEqual(found is None, self.timed(against, hall, result) is not None)


class EstimatesLimitsTest(TimedTest):
    def test_estimates(self):
        random = seeded(15)
        for reach, length in [(100, 30), (FAR, FAR), (10 ** 12 - 1, 0), (50, 1)]:
            lows = [random.randint(-reach, reach) for _ in range(40)]
            estimates = [(low, low + random.randint(0, length), random.randint(90, 99)) for low in lows]
            self.timed(weight_pieces, estimates, -reach, reach)
            self.timed(heaviest, estimates)
            self.timed(fused, estimates, 30)
            self.timed(middle_span, estimates)
            for doubt in hard_doubts(random):
                wide = doubt & Lots([random.sample(range(40), 35) for _ in range(24)])
                self.timed(fused_under, estimates, wide)
            least = [(low, high, 9) for low, high, _ in estimates]
            rows = self.timed(ladders, least)
            self.assertTrue(self.timed(accepts_ladders, least, rows))
            for count in (0, 9, 18):
                self.timed(least_clash, estimates[:20], count)
        rows = self.timed(ladders, [(0, 0, 9)] * 40)
        self.assertEqual(len(rows), 360)
        self.assertTrue(self.timed(accepts_ladders, [(0, 0, 9)] * 40, rows))


class BudgetLimitsTest(TimedTest):
    def test_budgets(self):
        random = seeded(16)
        curves = [[random.randint(0, 10 ** 6) for _ in range(41)] for _ in range(8)]
        self.assertEqual(len(self.timed(total_prices, curves)), 321)
        counts = self.timed(cheapest_counts, curves, 160)
        self.assertEqual(self.timed(price, curves, counts), total_prices(curves)[160])
        self.timed(totals_within, curves, 10 ** 6)
        self.timed(lead_price, curves, 7, 0, 40)
        for rank in (1, 5, 8):
            self.timed(rank_price, curves, 3, rank)
        estimates = [(random.randint(0, 20), random.randint(20, 40), 99) for _ in range(40)]
        self.assertEqual(len(self.timed(curve, estimates, 40)), 41)

    def test_seats(self):
        random = seeded(17)
        for top in (10, 10 ** 6):
            curves = [[random.randint(0, top) for _ in range(31)] for _ in range(6)]
            for step in (1, 9):
                for bound in (0, 1, 2, 6, 11, 12):
                    for box in (0, 5):
                        least, counts = self.timed(few_seats_price, curves, box, 12, bound, step=step)
                        self.assertLessEqual(divide(counts, 12, step=step)[box], bound)
                        least, counts = self.timed(many_seats_price, curves, box, 12, bound, step=step)
                        self.assertGreaterEqual(divide(counts, 12, step=step)[box], bound)
                        self.assertEqual(price(curves, counts), least)


class FlowLimitsTest(TimedTest):
    def test_flows(self):
        random = seeded(18)
        layers = [(4 * at + left, 4 * at + 4 + right) for at in range(4) for left in range(4) for right in range(4)]
        networks = [
            [(*random.sample(range(20), 2), random.randint(0, 10 ** 6)) for _ in range(80)],
            [(*pair, random.randint(0, 10 ** 6)) for pair in layers],
            [(node, node + 1, 10 ** 6 - node) for node in range(19)] * 4,
            [(node, node + 1 + skip, random.randint(1, 99)) for node in range(16) for skip in range(4)],
            [(0, node, 10 ** 6) for node in range(1, 19)] * 2 + [(node, 19, 10 ** 6) for node in range(1, 19)] * 2,
        ]
        for arcs in networks:
            amount, flows, _ = self.timed(greatest_flow, 20, arcs, 0, 19)
            chains = self.timed(flow_chains, 20, arcs, flows, 0, 19)
            self.assertEqual(sum(chain[0] for chain in chains), amount)

    def test_comparisons(self):
        random = seeded(19)
        for _ in range(20):
            comparisons = [(*random.sample(ALL, 2), random.randint(1, 99)) for _ in range(60)]
            strength, _, _ = self.timed(carried, 16, comparisons, 0, 15)
            self.assertIsNotNone(self.timed(lesser_counts, 16, comparisons, 0, 15, strength))
            self.assertIsNone(self.timed(group_strength, 16, comparisons, ALL, 3))
            self.assertGreaterEqual(self.timed(group_strength, 16, comparisons, ALL[:15], 15), strength)


if __name__ == "__main__":
    unittest.main()
