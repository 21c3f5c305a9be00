"""Points 57 and 58: flows and the ways that they take."""

import unittest

from counthall.flows import flow_chains, greatest_flow
from tests.plain import check_call, seeded, simple_ways, subsets

SMALL = [(0, 1, 4), (0, 2, 3), (1, 2, 5), (1, 3, 2), (2, 3, 6)]


def random_arcs(random, size, most, capacity):
    return [
        (random.randrange(size), random.randrange(size), random.randint(0, capacity))
        for _ in range(random.randint(0, most))
    ]


def amount_of(arcs, flows, node):
    """What goes out of a node less what comes into it."""
    out = sum(flow for (tail, _, _), flow in zip(arcs, flows) if tail == node)
    return out - sum(flow for (_, head, _), flow in zip(arcs, flows) if head == node)


class FlowCase(unittest.TestCase):
    def check_flow(self, size, arcs, start, goal):
        answer = check_call(self, greatest_flow, size, arcs, start, goal)
        self.assertIsInstance(answer, tuple)
        amount, flows, side = answer
        self.assertEqual(len(flows), len(arcs))
        for flow, (_, _, capacity) in zip(flows, arcs):
            self.assertTrue(0 <= flow <= capacity)
        for node in range(size):
            wanted = {start: amount, goal: -amount}.get(node, 0)
            self.assertEqual(amount_of(arcs, flows, node), wanted)
        self.assertEqual(side, sorted(set(side)))
        self.assertLessEqual(set(side), set(range(size)))
        self.assertIn(start, side)
        self.assertNotIn(goal, side)
        bound = sum(capacity for tail, head, capacity in arcs if tail in side and head not in side)
        self.assertEqual(bound, amount)
        self.check_chains(size, arcs, flows, start, goal)
        return amount

    def check_chains(self, size, arcs, flows, start, goal):
        chains = check_call(self, flow_chains, size, arcs, flows, start, goal)
        self.assertEqual(sum(amount for amount, _ in chains), amount_of(arcs, flows, start))
        used = [0] * len(arcs)
        for chain in chains:
            self.assertIsInstance(chain, tuple)
            amount, way = chain
            self.assertGreaterEqual(amount, 1)
            nodes = [start]
            for index in way:
                self.assertEqual(arcs[index][0], nodes[-1])
                nodes.append(arcs[index][1])
                used[index] += amount
            self.assertEqual(nodes[-1], goal)
            self.assertEqual(len(set(nodes)), len(nodes))
        self.assertTrue(all(total <= flow for total, flow in zip(used, flows)))
        return chains


class FlowTest(FlowCase):
    def test_answers(self):
        self.assertEqual(self.check_flow(4, SMALL, 0, 3), 7)
        self.assertEqual(self.check_flow(4, SMALL, 3, 0), 0)
        self.assertEqual(self.check_flow(4, SMALL, 1, 2), 5)
        self.assertEqual(self.check_flow(5, SMALL, 0, 4), 0)
        self.assertEqual(self.check_flow(2, [], 1, 0), 0)

    def test_a_way_that_must_be_taken_back(self):
        arcs = [(0, 1, 1), (0, 2, 1), (1, 2, 1), (1, 3, 1), (2, 4, 1), (3, 5, 1), (4, 5, 1), (2, 5, 0)]
        self.assertEqual(self.check_flow(6, arcs, 0, 5), 2)
        crossing = [(0, 1, 1), (1, 4, 1), (4, 5, 1), (0, 2, 1), (2, 4, 1), (1, 3, 1), (3, 5, 1)]
        self.assertEqual(self.check_flow(6, crossing, 0, 5), 2)

    def test_arcs_without_effect(self):
        arcs = [(0, 0, 9), (1, 1, 5), (1, 0, 7), (2, 1, 8), (2, 2, 3), (0, 2, 0), (2, 0, 4)]
        self.assertEqual(self.check_flow(3, arcs, 0, 2), 0)
        self.assertEqual(self.check_flow(3, [*arcs, (0, 1, 3), (1, 2, 2)], 0, 2), 2)

    def test_equal_arcs(self):
        self.assertEqual(self.check_flow(2, [(0, 1, 3), (0, 1, 3), (0, 1, 0)], 0, 1), 6)
        self.assertEqual(self.check_flow(2, [(0, 1, 10 ** 6)] * 80, 0, 1), 80 * 10 ** 6)

    def test_against_all_sides(self):
        random = seeded(70)
        for _ in range(250):
            size = random.randint(2, 6)
            arcs = random_arcs(random, size, 12, random.choice([1, 4, 10 ** 6]))
            start, goal = random.sample(range(size), 2)
            sides = [side for side in subsets(size) if start in side and goal not in side]
            bounds = [sum(c for tail, head, c in arcs if tail in side and head not in side) for side in sides]
            self.assertEqual(self.check_flow(size, arcs, start, goal), min(bounds))

    def test_larger_networks(self):
        random = seeded(71)
        positive = 0
        for _ in range(30):
            arcs = [(*random.sample(range(20), 2), random.randint(0, 10 ** 6)) for _ in range(80)]
            positive += self.check_flow(20, arcs, 3, 16) > 0
        self.assertGreater(positive, 20)


class ChainsTest(FlowCase):
    def test_flows_with_rings(self):
        arcs = [(0, 1, 5), (1, 2, 5), (2, 1, 5), (1, 3, 5), (3, 3, 9)]
        self.assertEqual(self.check_chains(4, arcs, [2, 4, 4, 2, 7], 0, 3), [(2, [0, 3])])
        self.assertEqual(self.check_chains(4, arcs, [0, 4, 4, 0, 7], 0, 3), [])

    def test_flow_that_comes_back_to_the_start_or_leaves_the_goal(self):
        arcs = [(0, 1, 9), (1, 0, 9)]
        self.assertEqual(self.check_chains(2, arcs, [5, 3], 0, 1), [(2, [0])])
        self.assertEqual(self.check_chains(2, arcs, [5, 5], 0, 1), [])
        arcs = [(0, 1, 9), (1, 2, 9), (2, 0, 9), (1, 0, 9)]
        self.assertEqual(self.check_chains(3, arcs, [6, 5, 3, 1], 0, 2), [(2, [0, 1])])
        arcs = [(0, 0, 9), (0, 1, 9), (1, 1, 9)]
        self.assertEqual(self.check_chains(2, arcs, [4, 3, 2], 0, 1), [(3, [1])])

    def test_no_flow(self):
        self.assertEqual(self.check_chains(4, SMALL, [0] * 5, 0, 3), [])
        self.assertEqual(self.check_chains(2, [], [], 0, 1), [])

    def test_a_flow_that_is_not_the_greatest(self):
        self.check_chains(4, SMALL, [3, 1, 2, 1, 3], 0, 3)

    def test_random_flows(self):
        random = seeded(72)
        rings = 0
        for _ in range(250):
            size = random.randint(2, 6)
            start, goal = random.sample(range(size), 2)
            arcs = [(random.randrange(size), random.randrange(size), 99) for _ in range(random.randint(1, 14))]
            flows = [0] * len(arcs)
            ways = simple_ways(arcs, start, goal)
            for way in random.sample(ways, min(random.randint(0, 5), len(ways))):
                more = random.randint(1, 5)
                for index in way:
                    flows[index] += more
            for node in range(size):
                for head in range(size):
                    back = simple_ways(arcs, head, node) if head != node else [[]]
                    loops = [index for index, arc in enumerate(arcs) if arc[:2] == (node, head)]
                    if back and loops and random.random() < 0.3:
                        rings += 1
                        for index in [loops[0], *random.choice(back)]:
                            flows[index] += 2
            self.check_chains(size, arcs, flows, start, goal)
        self.assertGreater(rings, 50)


if __name__ == "__main__":
    unittest.main()
