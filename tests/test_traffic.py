"""Point 73: traffic."""

import unittest

from counthall.chains import chain_end
from counthall.claims import Claim
from counthall.errors import Clash, NoSuchNode
from counthall.ledger import Ledger
from counthall.traffic import least_traffic, traffic
from tests.plain import check_call, claim_holds, seeded, worlds_of

TWO = Ledger([4, 4], 1)
THREE_HOURS = Ledger([5, 3], 2, gates=[2, None])


def plain_traffic(ledger, levels):
    rows = ledger.counts_of(levels)
    total = 0
    for before, after in zip(rows, rows[1:]):
        for border in range(1, len(ledger.rooms) + 1):
            total += abs(sum(before[:border]) - sum(after[:border]))
    return total


class TrafficTest(unittest.TestCase):
    def check_traffic(self, ledger, counts, amount):
        levels = ledger.levels_of(counts)
        self.assertEqual(check_call(self, traffic, ledger, levels), amount)
        self.assertEqual(plain_traffic(ledger, levels), amount)

    def test_answers(self):
        self.check_traffic(TWO, [[1, 2], [1, 2]], 0)
        self.check_traffic(TWO, [[1, 2], [0, 3]], 1)
        self.check_traffic(TWO, [[1, 2], [0, 2]], 2)
        self.check_traffic(TWO, [[1, 2], [3, 4]], 2 + 4)
        self.check_traffic(THREE_HOURS, [[1, 2], [3, 0], [1, 2]], 2 + 2)
        self.check_traffic(THREE_HOURS, [[0, 3], [0, 0], [0, 3]], 3 + 3)

    def test_one_hour_alone(self):
        self.check_traffic(Ledger([4, 4, 4], 0), [[1, 2, 3]], 0)

    def test_counts_that_no_world_has(self):
        self.check_traffic(TWO, [[-5, 9], [10, -20]], 15 + 14)

    def test_random_counts(self):
        random = seeded(551)
        for _ in range(50):
            boxes = random.randint(1, 3)
            hours = random.randint(1, 15 // boxes)
            ledger = Ledger([9] * boxes, hours - 1)
            counts = [[random.randint(0, 9) for _ in range(boxes)] for _ in range(hours)]
            self.check_traffic(ledger, counts, plain_traffic(ledger, ledger.levels_of(counts)))


class LeastTrafficTest(unittest.TestCase):
    def check_least(self, ledger, claims, amount):
        answer = check_call(self, least_traffic, ledger, claims)
        self.assertIsInstance(answer, tuple)
        self.assertEqual(answer[0], amount)
        self.assertTrue(ledger.frame.allows(answer[1]))
        self.assertTrue(all(claim_holds(claim, answer[1]) for claim in claims))
        self.assertEqual(plain_traffic(ledger, answer[1]), amount)

    def test_answers(self):
        start = [TWO.sum_claim(0, 0, 1, 3, 3), TWO.sum_claim(0, 1, 2, 1, 1)]
        self.check_least(TWO, start, 0)
        self.check_least(TWO, [*start, TWO.sum_claim(1, 0, 1, 1, 1)], 2)
        self.check_least(TWO, [*start, TWO.sum_claim(1, 1, 2, 0, 0)], 1)
        self.check_least(TWO, [*start, TWO.sum_claim(1, 0, 2, 7)], 3)
        self.check_least(TWO, [*start, TWO.passage_claim(1, 0, 1, -1, -1)], 1)
        self.check_least(TWO, [*start, TWO.passage_claim(1, 0, 1, 2, 2), TWO.passage_claim(2, 0, 1, -2)], 2)

    def test_claims_hold_whatever_their_weight(self):
        claims = [TWO.sum_claim(0, 0, 2, 8, 8, weight=1), TWO.sum_claim(1, 0, 2, 0, 0, weight=99)]
        self.check_least(TWO, claims, 4 + 8)

    def test_one_hour_alone(self):
        ledger = Ledger([4, 4], 0)
        self.check_least(ledger, [], 0)
        self.check_least(ledger, [ledger.sum_claim(0, 0, 2, 7)], 0)

    def test_no_claims(self):
        for ledger in (TWO, THREE_HOURS, Ledger([0], 14), Ledger([9] * 15, 0), Ledger([9] * 5, 2, gates=[0] * 5)):
            self.check_least(ledger, [], 0)

    def test_gates(self):
        claims = [
            THREE_HOURS.sum_claim(0, 0, 1, 5), THREE_HOURS.sum_claim(2, 0, 1, None, 1),
            THREE_HOURS.sum_claim(1, 1, 2, None, 0),
        ]
        self.check_least(THREE_HOURS, claims, 4 + 2)
        open_row = Ledger([5, 3], 2)
        more = [*claims[:2], open_row.sum_claim(1, 0, 1, 5)]
        self.check_least(open_row, more, 4 + 1)
        with self.assertRaises(Clash):
            least_traffic(THREE_HOURS, more)

    def test_things_go_both_ways(self):
        ledger = Ledger([9], 3)
        claims = [ledger.sum_claim(hour, 0, 1, count, count) for hour, count in enumerate([2, 7, 7, 1])]
        self.check_least(ledger, claims, 5 + 6)

    def test_against_all_worlds(self):
        random = seeded(552)
        least = []
        for _ in range(120):
            boxes, last = random.choice([(1, 1), (1, 2), (1, 3), (2, 1)])
            gates = random.choice([None, [random.choice([None, 0, 1, 2]) for _ in range(boxes)]])
            ledger = Ledger([random.randint(0, 3) for _ in range(boxes)], last, gates=gates)
            claims = []
            for hour in range(last + 1):
                box = random.randrange(boxes)
                count = random.randint(0, ledger.rooms[box])
                bounds = random.choice([(count, count), (count, None), (None, count), (count, count + 1)])
                claims.append(ledger.sum_claim(hour, box, box + 1, *bounds))
            if random.random() < 0.5:
                hours = sorted(random.choices(range(last + 1), k=2))
                claims.append(ledger.passage_claim(random.randint(0, boxes), *hours, random.randint(-2, 2)))
            worlds = [
                levels for levels in worlds_of(ledger.frame, 6)
                if all(claim_holds(claim, levels) for claim in claims)
            ]
            if worlds:
                least.append(min(plain_traffic(ledger, levels) for levels in worlds))
                self.check_least(ledger, claims, least[-1])
            else:
                self.check_clash(ledger, claims)
        self.assertGreater(len(least), 30)
        self.assertGreater(len([amount for amount in least if amount > 0]), 10)

    def check_clash(self, ledger, claims):
        with self.assertRaises(Clash) as caught:
            least_traffic(ledger, claims)
        error = caught.exception
        end, total = chain_end(ledger.frame, claims, error.start, error.ring)
        self.assertEqual(end, error.start)
        self.assertLess(total, 0)

    def test_a_world_that_is_not_possible(self):
        self.check_clash(TWO, [TWO.sum_claim(0, 0, 1, 5)])
        self.check_clash(TWO, [TWO.passage_claim(0, 0, 1, 1)])
        self.check_clash(TWO, [TWO.sum_claim(0, 0, 1, 3), TWO.sum_claim(0, 0, 1, None, 2)])
        self.check_clash(Ledger([4], 1, gates=[1]), [Claim(0, 1, 3), Claim(0, 2, None, 1)])

    def test_nodes_that_the_ledger_does_not_have(self):
        for claims, index in [([Claim(5, 0)], 0), ([Claim(0, 1, 9), Claim(0, 15)], 1)]:
            with self.assertRaises(NoSuchNode) as caught:
                least_traffic(TWO, claims)
            self.assertEqual(caught.exception.index, index)


if __name__ == "__main__":
    unittest.main()
