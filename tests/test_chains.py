"""Points 26 and 27: chains."""

import unittest

from counthall.chains import chain_end, clash_ring, least_chain
from counthall.claims import Claim
from counthall.errors import BrokenChain, Clash, NoSuchNode
from counthall.frames import Frame
from counthall.readings import row_frame
from counthall.tables import closed_table
from tests.plain import (
    check_call, nodes_of_chain, random_claim, random_frame, seeded, simple_chains, worlds_of, worlds_with,
)

FRAME = row_frame([2, 3])
CLAIMS = [Claim(0, 2, 4), Claim(1, 2, None, 2), Claim(1, 1, -3, 5)]


class ChainEndTest(unittest.TestCase):
    def test_empty_chain(self):
        self.assertEqual(check_call(self, chain_end, FRAME, CLAIMS, 2, []), (2, 0))
        self.assertEqual(check_call(self, chain_end, Frame(1, []), [], 0, []), (0, 0))

    def test_lengths_and_directions(self):
        for start, link, answer in [
            (0, ("rule", 0, "up"), (1, 2)), (1, ("rule", 0, "down"), (0, 0)), (2, ("claim", 0, "down"), (0, -4)),
            (1, ("claim", 1, "up"), (2, 2)), (1, ("claim", 2, "up"), (1, 5)), (1, ("claim", 2, "down"), (1, 3)),
        ]:
            self.assertEqual(check_call(self, chain_end, FRAME, CLAIMS, start, [link]), answer)

    def test_longer_chains_and_rings(self):
        chain = [("claim", 0, "down"), ("rule", 0, "up"), ("claim", 1, "up"), ("rule", 1, "down"), ("claim", 1, "up")]
        self.assertEqual(check_call(self, chain_end, FRAME, CLAIMS, 2, chain), (2, 2))
        self.assertEqual(check_call(self, chain_end, FRAME, CLAIMS, 2, chain * 3), (2, 6))

    def test_links_that_do_not_exist(self):
        good = ("rule", 0, "up")
        for link in [
            ("rule", 2, "up"), ("rule", -1, "up"), ("claim", 3, "up"), ("claim", -1, "down"), ("claim", 0, "up"),
            ("claim", 1, "down"), ("rule", 1, "left"), ("rule", 1, ""), ("recount", 1, "up"), ("", 0, "up"),
            ("Rule", 1, "up"), ("rule", 10 ** 11, "up"), ("claim", -3, "up"), ("rule", -2, "up"),
        ]:
            with self.assertRaises(BrokenChain) as caught:
                chain_end(FRAME, CLAIMS, 0, [good, link, ("nothing", 0, "up")])
            self.assertEqual(caught.exception.index, 1, link)

    def test_links_that_begin_elsewhere(self):
        for start, chain, index in [
            (1, [("rule", 0, "up")], 0), (0, [("rule", 0, "down")], 0),
            (0, [("rule", 0, "up"), ("rule", 0, "up")], 1), (0, [("rule", 0, "up"), ("claim", 0, "down")], 1),
        ]:
            with self.assertRaises(BrokenChain) as caught:
                chain_end(FRAME, CLAIMS, start, chain)
            self.assertEqual(caught.exception.index, index)

    def test_no_such_node_comes_first(self):
        wrong = [Claim(0, 1), Claim(0, 3)]
        for call in (
            lambda: chain_end(FRAME, wrong, 0, [("nothing", 0, "up")]),
            lambda: clash_ring(FRAME, wrong),
            lambda: least_chain(FRAME, wrong, 0, 1),
            lambda: least_chain(FRAME, [Claim(0, 2, 9), Claim(3, 0)], 0, 1),
        ):
            with self.assertRaises(NoSuchNode) as caught:
                call()
            self.assertEqual(caught.exception.index, 1)


class LeastChainTest(unittest.TestCase):
    def check_ring(self, frame, claims, start, ring):
        self.assertTrue(ring)
        node, total = chain_end(frame, claims, start, ring)
        self.assertEqual(node, start)
        self.assertLess(total, 0)
        nodes = nodes_of_chain(frame, claims, start, ring)
        self.assertEqual(len(set(nodes[1:])), len(ring))

    def test_example(self):
        answer = check_call(self, least_chain, row_frame([2, 3]), [Claim(0, 2, 4)], 2, 1)
        self.assertEqual(answer, (-2, [("claim", 0, "down"), ("rule", 0, "up")]))

    def test_same_node(self):
        self.assertEqual(check_call(self, least_chain, FRAME, CLAIMS, 1, 1), (0, []))
        self.assertEqual(check_call(self, least_chain, FRAME, [Claim(1, 1, 0, 0)], 1, 1), (0, []))

    def test_no_ring(self):
        self.assertIsNone(clash_ring(FRAME, CLAIMS))
        self.assertIsNone(clash_ring(FRAME, [Claim(0, 2, 5)]))
        self.assertIsNone(clash_ring(Frame(1, []), [Claim(0, 0, 0, 0)]))

    def test_ring_of_one_link(self):
        for claim, direction in [(Claim(1, 1, 2), "down"), (Claim(1, 1, None, -2), "up"), (Claim(1, 1, 2, 4), "down")]:
            answer = check_call(self, clash_ring, FRAME, [CLAIMS[0], claim])
            self.assertEqual(answer, (1, [("claim", 1, direction)]))

    def test_clash(self):
        claims = [Claim(0, 1, 1), Claim(1, 2, 3), Claim(0, 2, None, 3)]
        with self.assertRaises(Clash) as caught:
            least_chain(FRAME, claims, 1, 1)
        self.check_ring(FRAME, claims, caught.exception.start, caught.exception.ring)

    def test_against_a_plain_search(self):
        random = seeded(27)
        rings = 0
        for _ in range(250):
            size = random.choice([1, 2, 3, 4])
            frame = random_frame(random, size)
            claims = [random_claim(random, size) for _ in range(random.randrange(5))]
            worlds = worlds_with(worlds_of(frame, 6), claims)
            answer = check_call(self, clash_ring, frame, claims)
            if not worlds:
                rings += 1
                self.check_ring(frame, claims, *answer)
                with self.assertRaises(Clash) as caught:
                    least_chain(frame, claims, 0, size - 1)
                self.check_ring(frame, claims, caught.exception.start, caught.exception.ring)
                continue
            self.assertIsNone(answer)
            table = closed_table(frame, claims)
            for first in range(size):
                plain = simple_chains(frame, claims, first)
                for second in range(size):
                    total, chain = check_call(self, least_chain, frame, claims, first, second)
                    self.assertEqual(total, max(levels[second] - levels[first] for levels in worlds))
                    self.assertEqual(total, table[first][second])
                    self.assertEqual(total, min(known for end, known, _ in plain if end == second))
                    self.assertEqual(chain_end(frame, claims, first, chain), (second, total))
                    nodes = nodes_of_chain(frame, claims, first, chain)
                    self.assertEqual(len(set(nodes)), len(nodes))
        self.assertGreater(rings, 30)

    def test_long_rings(self):
        random = seeded(28)
        kinds = {True: 0, False: 0}
        for _ in range(200):
            size = random.choice([8, 16])
            frame = Frame(size, [(0, node, -999, 999) for node in range(1, size)])
            order = random.sample(range(size), size)
            loop = zip(order, order[1:] + order[:1])
            claims = [Claim(first, second, None, random.randint(-4, 4)) for first, second in loop]
            total = sum(claim.high for claim in claims)
            kinds[total < 0] += 1
            answer = check_call(self, clash_ring, frame, claims)
            if total < 0:
                self.check_ring(frame, claims, *answer)
                self.assertEqual(len(answer[1]), size)
                continue
            self.assertIsNone(answer)
            least, chain = check_call(self, least_chain, frame, claims, order[0], order[-1])
            self.assertEqual(least, total - claims[-1].high)
            self.assertEqual(chain, [("claim", index, "up") for index in range(size - 1)])
        self.assertGreater(min(kinds.values()), 30)


if __name__ == "__main__":
    unittest.main()
