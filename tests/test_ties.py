"""Points 61 and 62: ties."""

import unittest

from counthall.ties import borne, strength_tree, tied, tree_strength
from tests.plain import check_call, seeded, subsets

SQUARE = [(0, 1, 3), (2, 1, 2), (2, 3, 4), (3, 0, 1), (1, 1, 9), (0, 2, 5)]


def random_ties(random, size, most):
    return [
        (random.randrange(size), random.randrange(size), random.randint(1, 9)) for _ in range(random.randint(0, most))
    ]


def weight_across(ties, side):
    return sum(weight for first, second, weight in ties if (first in side) != (second in side))


def plain_strength(size, ties, first, second):
    """The least weight across any side with the first node and without the second one."""
    sides = [side for side in subsets(size) if first in side and second not in side]
    return min(weight_across(ties, side) for side in sides)


class TiedTest(unittest.TestCase):
    def check_tied(self, size, ties, first, second):
        answer = check_call(self, tied, size, ties, first, second)
        self.assertIsInstance(answer, tuple)
        strength, chains, side = answer
        used = [0] * len(ties)
        for chain in chains:
            self.assertIsInstance(chain, tuple)
            amount, way = chain
            self.assertGreaterEqual(amount, 1)
            nodes = [first]
            for index in way:
                ends = list(ties[index][:2])
                self.assertIn(nodes[-1], ends)
                ends.remove(nodes[-1])
                nodes += ends
                used[index] += amount
            self.assertEqual(nodes[-1], second)
            self.assertEqual(len(set(nodes)), len(nodes))
        self.assertTrue(all(total <= weight for total, (_, _, weight) in zip(used, ties)))
        self.assertEqual(sum(amount for amount, _ in chains), strength)
        self.assertEqual(side, sorted(set(side)))
        self.assertIn(first, side)
        self.assertNotIn(second, side)
        self.assertEqual(weight_across(ties, side), strength)
        return strength

    def test_answers(self):
        self.assertEqual(check_call(self, tied, 2, [(1, 0, 7)], 0, 1), (7, [(7, [0])], [0]))
        self.assertEqual(check_call(self, tied, 2, [(1, 0, 7)], 1, 0), (7, [(7, [0])], [1]))
        self.assertEqual(self.check_tied(4, SQUARE, 0, 2), 5 + 2 + 1)
        self.assertEqual(self.check_tied(4, SQUARE, 3, 1), 5)
        self.assertEqual(self.check_tied(4, SQUARE, 1, 3), 5)

    def test_ways_pass_ties_in_both_directions(self):
        ties = [(0, 1, 1), (2, 1, 1), (2, 3, 1)]
        self.assertEqual(check_call(self, tied, 4, ties, 0, 3)[1], [(1, [0, 1, 2])])
        self.assertEqual(check_call(self, tied, 4, ties, 3, 0)[1], [(1, [2, 1, 0])])
        # The first shortest way stands across the two ways that are there together.
        crossing = [(0, 1, 1), (1, 4, 1), (4, 5, 1), (0, 2, 1), (2, 3, 1), (3, 4, 1), (1, 6, 1), (6, 7, 1), (7, 5, 1)]
        self.assertEqual(self.check_tied(8, crossing, 0, 5), 2)
        self.assertEqual(self.check_tied(8, crossing, 5, 0), 2)

    def test_equal_ties(self):
        self.assertEqual(self.check_tied(2, [(0, 1, 3), (1, 0, 3), (0, 1, 1)], 0, 1), 7)

    def test_one_node_twice(self):
        for size, ties, node in [(4, SQUARE, 1), (1, [], 0), (1, [(0, 0, 4)], 0)]:
            self.assertEqual(check_call(self, tied, size, ties, node, node), (None, [], []))

    def test_nodes_that_no_tie_joins(self):
        self.assertEqual(check_call(self, tied, 2, [], 0, 1), (0, [], [0]))
        self.assertEqual(check_call(self, tied, 2, [(0, 0, 9), (1, 1, 9)], 1, 0), (0, [], [1]))
        self.assertEqual(self.check_tied(6, [*SQUARE, (4, 5, 8)], 3, 5), 0)
        self.assertEqual(self.check_tied(6, [*SQUARE, (4, 5, 8)], 5, 3), 0)

    def test_against_all_sides(self):
        random = seeded(501)
        for _ in range(250):
            size = random.randint(2, 6)
            ties = random_ties(random, size, 12)
            first, second = random.sample(range(size), 2)
            self.assertEqual(self.check_tied(size, ties, first, second), plain_strength(size, ties, first, second))


class TreeTest(unittest.TestCase):
    def check_tree(self, size, ties):
        tree = check_call(self, strength_tree, size, ties)
        self.assertEqual([entry[0] for entry in tree], list(range(1, size)))
        parents = {node: parent for node, parent, _, _ in tree}
        ups = {0: [0]}
        for node in parents:
            way = [node]
            while way[-1] != 0:
                way.append(parents[way[-1]])
                self.assertLessEqual(len(way), size, "a way that does not lead to node 0")
            ups[node] = way
        for entry in tree:
            self.assertIsInstance(entry, tuple)
            node, parent, strength, side = entry
            self.assertEqual(side, [other for other in range(size) if node in ups[other]])
            self.assertEqual(weight_across(ties, side), strength)
            self.assertEqual(tied(size, ties, node, parent)[0], strength)
        for first in range(size):
            for second in range(size):
                strength = tied(size, ties, first, second)[0]
                self.assertEqual(check_call(self, tree_strength, tree, first, second), strength)
                known = None if strength is None else (strength - 1) // 2
                self.assertEqual(check_call(self, borne, tree, first, second), known)
        return tree

    def test_one_node(self):
        self.assertEqual(self.check_tree(1, []), [])
        self.assertEqual(self.check_tree(1, [(0, 0, 5)]), [])

    def test_two_nodes(self):
        self.assertEqual(self.check_tree(2, [(0, 1, 5), (1, 0, 2), (1, 1, 9)]), [(1, 0, 7, [1])])

    def test_a_row(self):
        tree = self.check_tree(4, [(1, 0, 2), (1, 2, 9), (3, 2, 4)])
        self.assertEqual([tree_strength(tree, 0, node) for node in range(1, 4)], [2, 2, 2])
        self.assertEqual(tree_strength(tree, 3, 1), 4)

    def test_a_strength_of_nothing(self):
        tree = self.check_tree(5, [(0, 1, 3), (2, 3, 4), (4, 4, 1)])
        for pair in [(0, 2), (1, 3), (4, 0), (4, 3)]:
            self.assertEqual(tree_strength(tree, *pair), 0)
            self.assertEqual(borne(tree, *pair), -1)
        self.assertEqual(tree_strength(self.check_tree(3, []), 1, 2), 0)

    def test_borne(self):
        for weight, known in [(1, 0), (2, 0), (3, 1), (4, 1), (5, 2), (99, 49)]:
            tree = self.check_tree(2, [(0, 1, weight)])
            self.assertEqual(borne(tree, 0, 1), known)
            self.assertEqual(borne(tree, 1, 0), known)
            self.assertIsNone(borne(tree, 1, 1))

    def test_nodes_that_change_their_parents(self):
        # Node 0 hangs loosely, and the last node is the one that binds all others.
        ties = [(0, 5, 1), (1, 5, 4), (2, 5, 5), (3, 5, 6), (4, 5, 7), (1, 2, 1), (3, 4, 1)]
        self.check_tree(6, ties)
        self.check_tree(6, [(5 - first, 5 - second, weight) for first, second, weight in ties])

    def test_random_ties(self):
        random = seeded(502)
        for _ in range(120):
            size = random.randint(2, 7)
            self.check_tree(size, random_ties(random, size, 16))

    def test_all_strengths_against_all_sides(self):
        random = seeded(503)
        for _ in range(40):
            size = random.randint(2, 5)
            ties = random_ties(random, size, 10)
            tree = strength_tree(size, ties)
            for first in range(size):
                for second in range(size):
                    if first != second:
                        self.assertEqual(
                            tree_strength(tree, first, second), plain_strength(size, ties, first, second),
                        )


if __name__ == "__main__":
    unittest.main()
