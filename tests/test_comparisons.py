"""Points 59 and 60: comparisons."""

import unittest
from itertools import product

from counthall.comparisons import carried, group_strength, lesser_counts
from counthall.doubts import Within
from counthall.halls import Hall
from counthall.holders import shortfall
from counthall.readings import lead_claim, stand_frame
from counthall.spans import verdict
from tests.plain import check_call, seeded, simple_ways, subsets

CHAIN = [(0, 1, 3), (1, 2, 2), (0, 2, 4), (2, 0, 9), (1, 1, 5)]


def random_comparisons(random, size, most):
    return [
        (random.randrange(size), random.randrange(size), random.randint(1, 9)) for _ in range(random.randint(0, most))
    ]


def weight_of(comparisons, chosen):
    return sum(comparisons[index][2] for index in chosen)


class CarriedTest(unittest.TestCase):
    def check_carried(self, size, comparisons, first, second):
        answer = check_call(self, carried, size, comparisons, first, second)
        self.assertIsInstance(answer, tuple)
        strength, chains, cut = answer
        used = [0] * len(comparisons)
        for amount, way in chains:
            self.assertGreaterEqual(amount, 1)
            nodes = [first]
            for index in way:
                self.assertEqual(comparisons[index][0], nodes[-1])
                nodes.append(comparisons[index][1])
                used[index] += amount
            self.assertEqual(nodes[-1], second)
            self.assertEqual(len(set(nodes)), len(nodes))
        self.assertTrue(all(isinstance(chain, tuple) for chain in chains))
        self.assertTrue(all(total <= weight for total, (_, _, weight) in zip(used, comparisons)))
        self.assertEqual(sum(amount for amount, _ in chains), strength)
        self.assertEqual(cut, sorted(set(cut)))
        self.assertEqual(weight_of(comparisons, cut), strength)
        for way in simple_ways(comparisons, first, second):
            self.assertTrue(set(way) & set(cut))
        return strength

    def test_answers(self):
        self.assertEqual(self.check_carried(3, CHAIN, 0, 2), 6)
        self.assertEqual(self.check_carried(3, CHAIN, 2, 1), 3)
        self.assertEqual(self.check_carried(3, CHAIN, 0, 1), 3)
        self.assertEqual(check_call(self, carried, 2, [(0, 1, 7)], 0, 1), (7, [(7, [0])], [0]))

    def test_nodes_that_no_way_joins(self):
        self.assertEqual(check_call(self, carried, 4, CHAIN, 0, 3), (0, [], []))
        self.assertEqual(check_call(self, carried, 2, [(0, 1, 7)], 1, 0), (0, [], []))
        self.assertEqual(check_call(self, carried, 2, [], 1, 0), (0, [], []))

    def test_one_node_twice(self):
        for size, comparisons, node in [(3, CHAIN, 1), (1, [], 0), (1, [(0, 0, 4)], 0)]:
            self.assertEqual(check_call(self, carried, size, comparisons, node, node), (None, [], []))

    def test_against_all_cuts(self):
        random = seeded(73)
        for _ in range(250):
            size = random.randint(2, 6)
            comparisons = random_comparisons(random, size, 10)
            first, second = random.sample(range(size), 2)
            sides = [side for side in subsets(size) if first in side and second not in side]
            bounds = [sum(w for a, b, w in comparisons if a in side and b not in side) for side in sides]
            self.assertEqual(self.check_carried(size, comparisons, first, second), min(bounds))


class LesserCountsTest(unittest.TestCase):
    def check_lesser(self, size, comparisons, first, second, limit):
        strength = carried(size, comparisons, first, second)[0]
        answer = check_call(self, lesser_counts, size, comparisons, first, second, limit)
        if strength is None or strength > limit:
            self.assertIsNone(answer)
            return None
        self.assertIsInstance(answer, tuple)
        lot, counts = answer
        self.assertEqual(lot, sorted(set(lot)))
        self.assertLessEqual(weight_of(comparisons, lot), limit)
        self.assertEqual(len(counts), size)
        self.assertLessEqual(set(counts), {0, 1})
        self.assertLess(counts[first], counts[second])
        for index, (upper, lower, _) in enumerate(comparisons):
            self.assertTrue(index in lot or counts[upper] >= counts[lower])
        return answer

    def test_limits_at_the_strength_and_below_it(self):
        self.assertIsNone(self.check_lesser(3, CHAIN, 0, 2, 5))
        self.assertIsNotNone(self.check_lesser(3, CHAIN, 0, 2, 6))
        self.assertIsNotNone(self.check_lesser(3, CHAIN, 0, 2, 10 ** 6))
        self.assertIsNone(self.check_lesser(2, [(0, 1, 1)], 0, 1, 0))
        self.assertEqual(self.check_lesser(2, [(0, 1, 1)], 0, 1, 1), ([0], [0, 1]))

    def test_no_way_and_one_node(self):
        self.assertEqual(self.check_lesser(2, [(0, 1, 1)], 1, 0, 0), ([], [1, 0]))
        self.assertIsNone(self.check_lesser(2, [(0, 1, 1)], 1, 1, 10 ** 6))
        self.assertIsNone(self.check_lesser(1, [], 0, 0, 0))

    def test_random_comparisons(self):
        random = seeded(74)
        found = 0
        for _ in range(200):
            size = random.randint(1, 6)
            comparisons = random_comparisons(random, size, 10)
            first, second = random.randrange(size), random.randrange(size)
            strength = carried(size, comparisons, first, second)[0] or 0
            for limit in (strength, max(0, strength - 1), random.randint(0, 12)):
                found += self.check_lesser(size, comparisons, first, second, limit) is not None
        self.assertGreater(found, 100)

    def test_stands(self):
        random = seeded(75)
        words = {True: 0, False: 0}
        for _ in range(150):
            boxes = random.randint(2, 4)
            comparisons = random_comparisons(random, boxes, 6)
            rooms = [random.randint(1, 3) for _ in range(boxes)]
            claims = [lead_claim(upper, lower, 0, weight=weight) for upper, lower, weight in comparisons]
            first, second = random.sample(range(boxes), 2)
            strength = carried(boxes, comparisons, first, second)[0]
            for limit in (strength, max(0, strength - 1), random.randint(0, 9)):
                hall = Hall(stand_frame(rooms), claims, doubt=Within(limit))
                certain = verdict(hall, second + 1, first + 1, 0)[0] == "certain"
                self.assertEqual(certain, strength > limit)
                words[certain] += 1
        self.assertGreater(min(words.values()), 50)


class GroupStrengthTest(unittest.TestCase):
    def check_group(self, size, comparisons, group, node, answer):
        self.assertEqual(check_call(self, group_strength, size, comparisons, group, node), answer)

    def test_answers(self):
        self.check_group(3, CHAIN, [0, 1], 2, 6)
        self.check_group(3, CHAIN, [1], 2, 2)
        self.check_group(4, [(0, 3, 2), (1, 3, 4), (2, 1, 3), (0, 1, 1)], [0, 2], 3, 6)
        self.check_group(3, [(0, 2, 99), (1, 2, 99)], [1, 0], 2, 198)

    def test_an_empty_group_and_a_node_of_the_group(self):
        self.check_group(3, CHAIN, [], 2, 0)
        self.check_group(3, CHAIN, [2], 2, None)
        self.check_group(3, CHAIN, [0, 2, 1], 2, None)
        self.check_group(1, [], [], 0, 0)
        self.check_group(1, [(0, 0, 3)], [0], 0, None)

    def test_a_group_of_all_others(self):
        self.check_group(16, [(node, 15, 99) for node in range(15)] * 4, list(range(15)), 15, 60 * 99)

    def test_one_node_is_a_group(self):
        random = seeded(76)
        for _ in range(100):
            size = random.randint(1, 5)
            comparisons = random_comparisons(random, size, 8)
            first, second = random.randrange(size), random.randrange(size)
            strength = carried(size, comparisons, first, second)[0]
            self.check_group(size, comparisons, [first], second, strength)

    def test_against_all_sets(self):
        random = seeded(77)
        for _ in range(120):
            size = random.randint(2, 5)
            comparisons = random_comparisons(random, size, 7)
            group = random.sample(range(size), random.randint(0, size - 1))
            node = random.randrange(size)
            if node in group:
                self.check_group(size, comparisons, group, node, None)
                continue
            ways = [way for member in group for way in simple_ways(comparisons, member, node)]
            hits = [
                weight_of(comparisons, chosen) for chosen in subsets(len(comparisons))
                if all(set(chosen) & set(way) for way in ways)
            ]
            self.check_group(size, comparisons, group, node, min(hits))

    def test_groups_of_a_stand(self):
        random = seeded(78)
        for _ in range(100):
            boxes = random.randint(2, 4)
            comparisons = random_comparisons(random, boxes, 6)
            claims = [lead_claim(upper, lower, 0, weight=weight) for upper, lower, weight in comparisons]
            node = random.randrange(boxes)
            group = random.sample([box for box in range(boxes) if box != node], random.randint(0, boxes - 1))
            limit = random.randint(0, 9)
            hall = Hall(stand_frame([1] * boxes), claims, doubt=Within(limit))
            short = shortfall(hall, [box + 1 for box in group], node + 1)
            self.assertEqual(short is None, group_strength(boxes, comparisons, group, node) > limit)

    def test_zeros_and_ones_are_enough(self):
        comparisons = [(0, 1, 1), (1, 2, 2), (2, 0, 3)]
        for counts in product(range(2), repeat=3):
            broken = [index for index, (upper, lower, _) in enumerate(comparisons) if counts[upper] < counts[lower]]
            if counts[0] < counts[2]:
                self.assertGreaterEqual(weight_of(comparisons, broken), carried(3, comparisons, 0, 2)[0])


if __name__ == "__main__":
    unittest.main()
