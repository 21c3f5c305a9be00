"""Point 99 for ties, askings, growing errors, traffic and plans."""

import unittest

from counthall.askings import askings_bound, cheapest_askings
from counthall.claims import Claim
from counthall.doubts import AtMost
from counthall.errors import Clash
from counthall.even import even_against, even_fraction, even_growth
from counthall.frames import Frame
from counthall.growth import cheapest_table, flow_gap, growth, least_growth
from counthall.growthcurve import growth_against, growth_curve
from counthall.ledger import Ledger
from counthall.plans import Plan, told_hall
from counthall.ties import borne, strength_tree, tied, tree_strength
from counthall.traffic import least_traffic, traffic
from tests.hard import FAR, TimedTest, hard_claims, hard_frame, loose_frame
from tests.plain import seeded


def sixty_pairs(random):
    """Several ways to join 16 nodes by 60 pairs: at random, as a grid, as two dense halves, as a row."""
    grid = [(node, node + step) for node in range(16) for step in (1, 4) if node + step < 16]
    halves = [tuple(random.sample(range(8), 2)) for _ in range(29)]
    yield [tuple(random.sample(range(16), 2)) for _ in range(60)]
    yield (grid * 3)[:60]
    yield [*halves, (0, 8), (7, 15), *[(first + 8, second + 8) for first, second in halves]]
    yield ([(node, node + 1) for node in range(15)] * 4)


def hard_growths(number, many, weight):
    """Frames of 16 nodes with 60 rules, and claims of this weight that agree little with them."""
    random = seeded(number)
    for spread in (0, 3, FAR // 8):
        frame, world = hard_frame(random, spread)
        for wide in (3, 40, FAR // 8):
            claims = hard_claims(random, world, many, wide)
            yield random, frame, [Claim(*claim.parts()[:4], weight=weight) for claim in claims], world
            firm = [(claim.first, claim.second, claim.low) for claim in claims]
            yield random, frame, [Claim(*parts[:2], parts[2], parts[2], weight=weight) for parts in firm], world
    for step in (1, 2, 5):
        values = [random.randint(-30, 30) for _ in range(many)]
        pairs = [(at // step, at // step + 1) if step > 1 else random.sample(range(16), 2) for at in range(many)]
        claims = [Claim(*pair, value, value, weight=weight) for pair, value in zip(pairs, values)]
        yield random, loose_frame(), claims, [0] * 16


def narrow_frame(random):
    """A frame of 16 nodes with 60 rules in which the levels of nodes 0 and 15 have 30 differences."""
    rules = [(0, 15, -10, 19), *[(node, node + 1, -30, 30) for node in range(14)]]
    pairs = [random.sample(range(16), 2) for _ in range(45)]
    return Frame(16, [*rules, *[(*pair, -random.randint(2, 30), random.randint(2, 30)) for pair in pairs]])


class GrowthLimitsTest(TimedTest):
    def test_ties(self):
        random = seeded(561)
        for pairs in sixty_pairs(random):
            for most in (1, 99):
                ties = [(*pair, random.randint(1, most)) for pair in pairs]
                tree = self.timed(strength_tree, 16, ties)
                for first, second in [(0, 15), (15, 0), (3, 9)]:
                    strength = self.timed(tied, 16, ties, first, second)[0]
                    self.assertEqual(self.timed(tree_strength, tree, first, second), strength)
                    self.timed(borne, tree, first, second)

    def test_askings(self):
        random = seeded(562)
        fans = [(0, 1)] * 9 + [(14, 15)] * 9 + [tuple(random.sample(range(1, 15), 2)) for _ in range(22)]
        for pairs in [*sixty_pairs(random), fans, [(0, 15)] * 40]:
            for most in (0, 9, 999):
                offers = [(*pair, random.randint(0, most)) for pair in pairs[:40]]
                for ways in range(1, 10):
                    answer = self.timed(cheapest_askings, 16, offers, 0, 15, ways)
                    if answer is not None:
                        self.assertEqual(askings_bound(offers, 0, 15, ways, answer[2]), answer[0])

    def test_growth(self):
        for _, frame, claims, world in hard_growths(563, 16, 9):
            cost, levels, flow = self.timed(least_growth, frame, claims)
            self.assertEqual(self.timed(growth, claims, levels), cost)
            self.assertEqual(self.timed(flow_gap, frame, claims, flow), cost)
            self.timed(cheapest_table, frame, claims)
            for high in (world[15] - 1, world[15], levels[15]):
                self.timed(growth_against, frame, claims, 0, 15, high)

    def test_growth_curves(self):
        random = seeded(564)
        for _ in range(6):
            frame = narrow_frame(random)
            for first, second in [(0, 15), (15, 0)]:
                table = [Claim(*random.sample(range(16), 2), value, value, weight=5)
                         for value in [random.randint(-30, 30) for _ in range(8)]]
                self.assertLessEqual(len(self.timed(growth_curve, frame, table, first, second)[1]), 30)
                same = [Claim(0, 15, value, value, weight=5) for value in [random.randint(-20, 30) for _ in range(8)]]
                self.timed(growth_curve, frame, same, first, second)

    def test_even_growth(self):
        for random, frame, claims, world in hard_growths(565, 16, 9):
            for least, most in [(1, 1), (0, 99), (1, 99), (98, 99)]:
                shares = [random.randint(least, most) for _ in claims]
                self.timed(even_growth, frame, claims, shares)
                self.timed(even_fraction, frame, claims, shares)
                self.timed(even_against, frame, claims, 0, 15, world[15], shares)

    def test_traffic(self):
        random = seeded(566)
        possible = 0
        for boxes, last in [(1, 14), (2, 6), (3, 4), (5, 2), (15, 0), (7, 1)]:
            for room in (4, FAR):
                gates = [random.choice([None, room // 2]) for _ in range(boxes)]
                ledger = Ledger([room] * boxes, last, gates=gates)
                claims = []
                for _ in range(16):
                    start, stop = sorted(random.choices(range(boxes + 1), k=2))
                    low = random.randint(0, room * (stop - start))
                    bounds = (low, None) if random.random() < 0.5 else (None, low)
                    claims.append(ledger.sum_claim(random.randint(0, last), start, stop, *bounds))
                while True:
                    try:
                        amount, levels = self.timed(least_traffic, ledger, claims)
                        break
                    except Clash as error:
                        told = [index for source, index, _ in error.ring if source == "claim"]
                        del claims[told[0]]
                possible += len(claims)
                self.assertEqual(self.timed(traffic, ledger, levels), amount)
        self.assertGreater(possible, 60)

    def test_plans(self):
        random = seeded(567)
        limits = [(random.randrange(node), node, 10 ** 12 - 1) for node in range(1, 16)]
        askings = [(*random.sample(range(16), 2), 10 ** 12 - 1, 99) for _ in range(8)]
        plan = self.timed(Plan, 16, limits, askings)
        self.timed(told_hall, plan, [(0, 10 ** 12 - 1)] * 8, AtMost(2))


if __name__ == "__main__":
    unittest.main()
