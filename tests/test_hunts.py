"""Points 83 and 84: hunts for the one false account."""

import unittest
from functools import lru_cache

from counthall.accounts import account_levels, corrected, suspects
from counthall.errors import NoSuspect
from counthall.hunts import follow, hunt
from tests.plain import check_call, difference, seeded
from tests.test_accounts import RING, random_accounts, ring_accounts, without


def price_of(prices, first, second):
    if prices is None:
        return 1
    return sum(prices[node] for node in range(min(first, second), max(first, second)))


def levels_if_false(size, accounts, index):
    """The levels if the suspect with this index is the false account."""
    first, second, _ = accounts[index]
    told = [*accounts[:index], (first, second, corrected(size, accounts, index)), *accounts[index + 1:]]
    return account_levels(size, told)


def plain_worst(size, accounts, prices):
    """The least price in the worst case, by a search through all recounts of connected nodes."""
    found = suspects(size, accounts)
    cases = {index: levels_if_false(size, accounts, index) for index in found}
    linked = {accounts[found[0]][0]}
    for _ in range(size):
        for first, second, _ in accounts:
            linked |= {first, second} if linked & {first, second} else set()

    @lru_cache(None)
    def worst(left):
        if len(left) == 1:
            return 0
        options = []
        for first in linked:
            for second in linked:
                groups = {}
                for index in left:
                    groups.setdefault(difference(cases[index], first, second), set()).add(index)
                if len(groups) > 1:
                    rest = max(worst(frozenset(group)) for group in groups.values())
                    options.append(price_of(prices, first, second) + rest)
        return min(options)

    return worst(frozenset(found))


def all_leaves(tree):
    if tree[0] == "found":
        return [tree[1]]
    return all_leaves(tree[4]) + all_leaves(tree[5])


class HuntTest(unittest.TestCase):
    def check_hunt(self, size, accounts, prices=None, plain=True):
        answer = check_call(self, hunt, size, accounts, prices)
        self.assertIsInstance(answer, tuple)
        worst, tree = answer
        self.check_tree(tree)
        found = suspects(size, accounts)
        self.assertEqual(sorted(all_leaves(tree)), found)
        paid = []
        for index in found:
            levels = levels_if_false(size, accounts, index)
            self.assertTrue(all(difference(levels, *account[:2]) == account[2] for account in without(accounts, index)))
            end, asked = check_call(self, follow, tree, levels)
            self.assertEqual(end, index)
            paid.append(sum(price_of(prices, *pair) for pair in asked))
        self.assertEqual(max(paid), worst)
        if plain:
            self.assertEqual(plain_worst(size, accounts, prices), worst)
        if prices is None:
            self.assertEqual(worst, (len(found) - 1).bit_length())
        return worst, tree

    def check_tree(self, tree):
        self.assertIsInstance(tree, tuple)
        if tree[0] == "found":
            self.assertEqual(len(tree), 2)
        else:
            self.assertEqual((tree[0], len(tree)), ("ask", 6))
            self.check_tree(tree[4])
            self.check_tree(tree[5])

    def test_three_suspects(self):
        self.assertEqual(self.check_hunt(3, RING)[0], 2)
        self.assertEqual(self.check_hunt(3, RING, [1, 1])[0], 2)
        self.assertEqual(self.check_hunt(3, RING, [5, 0])[0], 5)
        self.assertEqual(self.check_hunt(3, RING, [5, 7])[0], 12)
        self.assertEqual(self.check_hunt(3, RING, [0, 0])[0], 0)
        self.assertEqual(self.check_hunt(3, RING, [999, 999])[0], 1998)

    def test_one_suspect_alone(self):
        accounts = [(0, 1, 4), (1, 0, -4), (1, 0, -7), (1, 2, 1)]
        for prices in (None, [0, 0], [999, 5]):
            self.assertEqual(self.check_hunt(3, accounts, prices), (0, ("found", 2)))
        self.assertEqual(self.check_hunt(1, [(0, 0, -5)], []), (0, ("found", 0)))
        self.assertEqual(self.check_hunt(1, [(0, 0, -5)]), (0, ("found", 0)))

    def test_two_suspects(self):
        for prices, worst in [(None, 1), ([7], 7), ([0], 0)]:
            found, tree = self.check_hunt(2, [(0, 1, 4), (0, 1, 6)], prices)
            self.assertEqual(found, worst)
            self.assertIn(tree[3], (4, 6) if tree[1:3] == (0, 1) else (-4, -6))

    def test_dear_recounts_are_left_out(self):
        # Nodes 0 to 3 stand in a ring; the middle is dear to recount.
        accounts = [(0, 1, 1), (1, 2, 1), (2, 3, 1), (3, 0, 5)]
        self.assertEqual(self.check_hunt(4, accounts, [1, 99, 1])[0], 101)
        self.assertEqual(self.check_hunt(4, accounts, [1, 1, 99])[0], 101)
        self.assertEqual(self.check_hunt(4, accounts, [0, 3, 0])[0], 3)

    def test_recounts_between_other_nodes_of_the_areas(self):
        # Node 3 is as good as node 2, and cheaper to recount from.
        accounts = [(0, 3, 9), (3, 2, 4), (2, 3, -4), (3, 1, 2), (1, 0, 2)]
        self.check_hunt(4, accounts, [500, 3, 2])
        self.check_hunt(4, accounts, [3, 500, 2])

    def test_no_suspects(self):
        for size, accounts in [
            (1, []), (3, RING[:2]), (2, [(1, 1, 0)]), (2, [(0, 1, 1), (0, 1, 2), (0, 1, 3)]), (3, [*RING, (2, 2, 5)]),
        ]:
            for prices in (None, [1] * (size - 1)):
                with self.assertRaises(NoSuspect):
                    hunt(size, accounts, prices)

    def test_as_many_suspects_as_there_may_be(self):
        random = seeded(621)
        for many in range(2, 11):
            size, accounts = ring_accounts(random, many, 0)
            if account_levels(size, accounts) is None:
                self.check_hunt(size, accounts, plain=many < 8)
                self.check_hunt(size, accounts, [random.randint(0, 999) for _ in range(size - 1)], plain=many < 8)

    def test_random_accounts(self):
        random = seeded(622)
        found = []
        for _ in range(500):
            size, accounts = random_accounts(random)
            if suspects(size, accounts):
                found.append(len(suspects(size, accounts)))
                for prices in (None, [random.choice([0, 1, 2, 9]) for _ in range(size - 1)]):
                    self.check_hunt(size, accounts, prices)
        self.assertGreater(len([many for many in found if many > 1]), 40)

    def test_nodes_without_accounts_are_not_recounted(self):
        accounts = [(2, 4, 4), (4, 6, 5), (2, 6, 10), (1, 3, 7)]
        tree = self.check_hunt(7, accounts, [0] * 6)[1]
        while tree[0] == "ask":
            self.assertLessEqual({tree[1], tree[2]}, {2, 4, 6})
            tree = tree[5] if tree[4][0] == "found" else tree[4]


class FollowTest(unittest.TestCase):
    def test_a_tree(self):
        tree = ("ask", 0, 1, 5, ("found", 7), ("ask", 2, 0, -3, ("found", 8), ("found", 9)))
        for levels, answer in [
            ([0, 5, 9], (7, [(0, 1)])), ([2, 7, 9], (7, [(0, 1)])), ([0, -5, 3], (8, [(0, 1), (2, 0)])),
            ([0, 6, 3], (8, [(0, 1), (2, 0)])), ([0, 6, 2], (9, [(0, 1), (2, 0)])), ([3, 0, 0], (9, [(0, 1), (2, 0)])),
        ]:
            self.assertEqual(check_call(self, follow, tree, levels), answer)

    def test_a_tree_without_recounts(self):
        self.assertEqual(check_call(self, follow, ("found", 3), [0]), (3, []))


if __name__ == "__main__":
    unittest.main()
