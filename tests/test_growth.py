"""Points 65 to 68: growing errors."""

import unittest

from counthall.claims import Claim
from counthall.errors import NoSuchNode
from counthall.frames import Frame
from counthall.growth import cheapest_table, flow_gap, growth, least_growth
from counthall.readings import count_claim, row_frame, stand_frame
from counthall.tables import closed_table, in_table, table_of
from tests.plain import check_call, random_claim, random_frame, seeded, worlds_of

ROW = row_frame([9])
PAIR = [Claim(0, 1, 2, 3), Claim(0, 1, 6, 6, weight=2)]


def plain_growth(claims, levels):
    total = 0
    for claim in claims:
        difference = levels[claim.second] - levels[claim.first]
        if claim.low is not None and difference < claim.low:
            total += claim.weight * (claim.low - difference)
        if claim.high is not None and difference > claim.high:
            total += claim.weight * (difference - claim.high)
    return total


def plain_gap(frame, claims, flow):
    """The gap of a flow by the words of point 66, or None."""
    bands = [(*rule, None) for rule in frame.rules] + [claim.parts() for claim in claims]
    flows = [*flow[0], *flow[1]]
    for node in range(frame.size):
        coming = sum(amount for band, amount in zip(bands, flows) if band[1] == node)
        if coming != sum(amount for band, amount in zip(bands, flows) if band[0] == node):
            return None
    gap = 0
    for (_, _, low, high, weight), amount in zip(bands, flows):
        if weight is not None and abs(amount) > weight:
            return None
        if amount > 0 and high is None or amount < 0 and low is None:
            return None
        gap -= amount * high if amount > 0 else amount * low if amount < 0 else 0
    return gap


def random_growing(number, many, most_claims=5):
    """Small frames with claims, and all worlds with their growths."""
    random = seeded(number)
    for _ in range(many):
        frame = random_frame(random, random.randint(1, 4))
        claims = [random_claim(random, frame.size) for _ in range(random.randint(0, most_claims))]
        if random.random() < 0.2:
            nodes = random.randrange(frame.size), random.randrange(frame.size)
            claims.append(random.choice([Claim(*nodes), Claim(*nodes, 9, weight=9), Claim(*nodes, None, -9, weight=9)]))
        yield random, frame, claims, [(plain_growth(claims, levels), levels) for levels in worlds_of(frame, 8)]


class GrowthTest(unittest.TestCase):
    def check_growth(self, claims, levels, amount):
        self.assertEqual(check_call(self, growth, claims, levels), amount)

    def test_answers(self):
        self.check_growth(PAIR, [0, 6], 3)
        self.check_growth(PAIR, [0, 3], 6)
        self.check_growth(PAIR, [5, 5], 2 + 12)
        self.check_growth(PAIR, [0, 9], 6 + 6)
        self.check_growth(PAIR, [4, 9], 2 + 2)

    def test_no_claims_and_claims_without_bounds(self):
        self.check_growth([], [0, 4], 0)
        self.check_growth([Claim(0, 1, weight=9)], [0, 4], 0)
        self.check_growth([Claim(0, 1, 6, weight=9)], [0, 4], 18)
        self.check_growth([Claim(0, 1, None, 6, weight=9)], [0, 4], 0)
        self.check_growth([Claim(0, 1, None, 3, weight=9)], [0, 4], 9)

    def test_claims_about_nothing(self):
        self.check_growth([Claim(1, 1, -1, 1), Claim(1, 1, 2, 3, weight=4), Claim(0, 0, None, -5)], [0, 4], 8 + 5)

    def test_it_takes_no_frame(self):
        self.check_growth([Claim(14, 15, 3)], [0] * 16, 3)


class FlowGapTest(unittest.TestCase):
    def check_gap(self, frame, claims, flow, gap):
        self.assertEqual(check_call(self, flow_gap, frame, claims, flow), gap)
        self.assertEqual(plain_gap(frame, claims, flow), gap)

    def test_answers(self):
        self.check_gap(ROW, PAIR, ([0], [1, -1]), 3)
        self.check_gap(ROW, PAIR, ([0], [0, 0]), 0)
        self.check_gap(ROW, PAIR, ([1], [1, -2]), -9 - 3 + 12)
        self.check_gap(ROW, PAIR, ([2], [-1, -1]), -18 + 2 + 6)
        self.check_gap(ROW, PAIR, ([-3], [1, 2]), 0 - 3 - 12)
        self.check_gap(ROW, [], ([0], []), 0)
        self.check_gap(Frame(1, []), [], ([], []), 0)

    def test_nodes_out_of_balance(self):
        self.check_gap(ROW, PAIR, ([0], [1, 0]), None)
        self.check_gap(ROW, PAIR, ([1], [0, 0]), None)
        self.check_gap(ROW, PAIR, ([0], [1, 1]), None)
        ring = row_frame([5, 5])
        claims = [Claim(0, 2, 3, 4, weight=2)]
        self.check_gap(ring, claims, ([1, 1], [-1]), -10 + 3)
        self.check_gap(ring, claims, ([1, 0], [-1]), None)
        self.check_gap(ring, claims, ([1, 2], [-1]), None)

    def test_flows_beyond_the_weight(self):
        self.check_gap(ROW, PAIR, ([-1], [-1, 2]), 0 + 2 - 12)
        self.check_gap(ROW, PAIR, ([0], [2, -2]), None)
        self.check_gap(ROW, PAIR, ([-1], [-2, 3]), None)
        self.check_gap(ROW, PAIR, ([2], [1, -3]), None)
        self.check_gap(ROW, PAIR, ([3], [-1, -2]), -27 + 2 + 12)
        self.check_gap(ROW, PAIR, ([-99], [0, 0]), None)

    def test_bounds_that_are_not_there(self):
        least = [Claim(0, 1, 4, weight=9)]
        self.check_gap(ROW, least, ([2], [-2]), -18 + 8)
        self.check_gap(ROW, least, ([-2], [2]), None)
        most = [Claim(0, 1, None, 4, weight=9)]
        self.check_gap(ROW, most, ([-2], [2]), -8)
        self.check_gap(ROW, most, ([2], [-2]), None)
        self.check_gap(ROW, [Claim(0, 1)], ([0], [0]), 0)
        self.check_gap(ROW, [Claim(0, 1)], ([-1], [1]), None)
        self.check_gap(ROW, [Claim(0, 1)], ([1], [-1]), None)

    def test_claims_about_nothing(self):
        claims = [Claim(1, 1, 2, 3, weight=4)]
        self.check_gap(ROW, claims, ([0], [-4]), 8)
        self.check_gap(ROW, claims, ([0], [4]), -12)
        self.check_gap(ROW, claims, ([0], [-5]), None)
        self.check_gap(ROW, [Claim(0, 0, 2)], ([0], [1]), None)

    def test_no_growth_is_below_a_gap(self):
        found = 0
        for random, frame, claims, cases in random_growing(521, 150, 3):
            for _ in range(40):
                flow = (
                    [random.choice([0, 0, 0, 1, -1, 2]) for _ in frame.rules],
                    [random.choice([0, 0, 1, -1, 2, -3]) for _ in claims],
                )
                gap = plain_gap(frame, claims, flow)
                self.check_gap(frame, claims, flow, gap)
                if gap is not None:
                    found += any(flow[1])
                    self.assertLessEqual(gap, min(cases)[0])
        self.assertGreater(found, 100)


class LeastGrowthTest(unittest.TestCase):
    def check_least(self, frame, claims, cases=None):
        answer = check_call(self, least_growth, frame, claims)
        self.assertIsInstance(answer, tuple)
        cost, levels, flow = answer
        self.assertIsInstance(flow, tuple)
        self.assertEqual([len(part) for part in flow], [len(frame.rules), len(claims)])
        self.assertTrue(frame.allows(levels))
        self.assertEqual(plain_growth(claims, levels), cost)
        self.assertEqual(plain_gap(frame, claims, flow), cost)
        self.assertEqual(check_call(self, flow_gap, frame, claims, flow), cost)
        table = check_call(self, cheapest_table, frame, claims)
        self.assertTrue(in_table(table, levels))
        self.assertEqual(levels, [-row[0] for row in table])
        if cases is not None:
            best = [levels for amount, levels in cases if amount == cost]
            self.assertEqual(min(cases)[0], cost)
            self.assertEqual(levels, [min(column) for column in zip(*best)])
            self.assertEqual(table, table_of(best))
            for amount, world in cases:
                self.assertEqual(in_table(table, world), amount == cost)
        return cost, levels

    def test_the_example(self):
        self.assertEqual(check_call(self, least_growth, ROW, PAIR), (3, [0, 6], ([0], [1, -1])))

    def test_no_claims(self):
        self.assertEqual(self.check_least(ROW, []), (0, [0, 0]))
        self.assertEqual(cheapest_table(ROW, []), closed_table(ROW))
        self.assertEqual(self.check_least(Frame(1, []), []), (0, [0]))
        self.assertEqual(cheapest_table(Frame(1, []), []), [[0]])

    def test_claims_that_agree(self):
        claims = [Claim(0, 1, 3), Claim(0, 1, None, 5, weight=9), Claim(0, 1)]
        self.assertEqual(self.check_least(ROW, claims), (0, [0, 3]))
        self.assertEqual(cheapest_table(ROW, claims), closed_table(ROW, claims))

    def test_weights_that_are_equal_leave_many_worlds(self):
        claims = [Claim(0, 1, 2, 2, weight=4), Claim(0, 1, 7, 7, weight=4)]
        self.assertEqual(self.check_least(ROW, claims), (20, [0, 2]))
        self.assertEqual(cheapest_table(ROW, claims), [[0, 7], [-2, 0]])

    def test_the_greater_weight_counts(self):
        for weight, other, level in [(9, 8, 2), (8, 9, 7), (1, 9, 7)]:
            claims = [Claim(0, 1, 2, 2, weight=weight), Claim(0, 1, 7, 7, weight=other)]
            self.assertEqual(self.check_least(ROW, claims), (5 * min(weight, other), [0, level]))

    def test_rules_hold_at_any_price(self):
        claims = [Claim(0, 1, 20, weight=9), Claim(0, 1, None, 8)]
        self.assertEqual(self.check_least(ROW, claims), (9 * 11 + 1, [0, 9]))
        self.assertEqual(self.check_least(ROW, [Claim(0, 1, None, -5, weight=3)]), (15, [0, 0]))

    def test_claims_about_nothing(self):
        self.assertEqual(self.check_least(ROW, [Claim(1, 1, 3, 5, weight=9), Claim(0, 0, None, -2)]), (29, [0, 0]))
        self.assertEqual(self.check_least(ROW, [Claim(1, 1, -3, 5)]), (0, [0, 0]))

    def test_rooms_that_press(self):
        frame = Frame(4, [(0, 1, 0, 9), (0, 2, 0, 9), (0, 3, 0, 9), (1, 2, 2, 2), (2, 3, -1, 4)])
        claims = [count_claim(0, 8, 8, weight=2), count_claim(1, 3, 3), count_claim(2, 0, 1, weight=3)]
        cases = [(plain_growth(claims, levels), levels) for levels in worlds_of(frame, 9)]
        self.check_least(frame, claims, cases)

    def test_random_claims(self):
        clashes = 0
        for _, frame, claims, cases in random_growing(522, 250):
            clashes += self.check_least(frame, claims, cases)[0] > 0
        self.assertGreater(clashes, 80)

    def test_exact_claims_with_great_weights(self):
        random = seeded(523)
        for _ in range(200):
            frame = random_frame(random, random.choice([2, 3, 3, 4]), 3)
            claims = []
            for _ in range(random.randint(2, 8)):
                first, second = random.sample(range(frame.size), 2)
                value = random.randint(-4, 4)
                claims.append(Claim(first, second, value, value, weight=random.choice([1, 2, 5, 8, 9])))
            cases = [(plain_growth(claims, levels), levels) for levels in worlds_of(frame, 12 if frame.size < 4 else 9)]
            self.check_least(frame, claims, cases)

    def test_frames_with_one_world(self):
        frame = Frame(3, [(0, 1, 4, 4), (1, 2, -2, -2)])
        claims = [Claim(0, 2, 5, 6, weight=9), Claim(2, 1, None, 0)]
        self.assertEqual(self.check_least(frame, claims), (27 + 2, [0, 4, 2]))
        self.assertEqual(cheapest_table(frame, claims), closed_table(frame))

    def test_middles_of_single_counts(self):
        # With claims about one box alone, the least growth stands at the weighted middle.
        claims = [count_claim(0, value, value, weight=weight) for value, weight in [(1, 2), (4, 1), (6, 3), (9, 1)]]
        self.assertEqual(self.check_least(stand_frame([9]), claims), (2 * 5 + 2 + 3, [0, 6]))
        self.assertEqual(cheapest_table(stand_frame([9]), claims[:3]), [[0, 6], [-4, 0]])


class NodesTest(unittest.TestCase):
    def test_nodes_that_the_frame_does_not_have(self):
        claims = [Claim(0, 1, 3), Claim(1, 2, 3), Claim(5, 0)]
        for function, more in [(flow_gap, [([0, 0], [7])]), (least_growth, []), (cheapest_table, [])]:
            with self.assertRaises(NoSuchNode) as caught:
                function(ROW, claims, *more)
            self.assertEqual(caught.exception.index, 1)
            function(row_frame([9, 9]), claims[:2], *more)


if __name__ == "__main__":
    unittest.main()
