"""Points 79 to 82: one false teller among exact ones."""

import unittest

from counthall.accounts import account_levels, corrected, suspect_ring, suspects
from counthall.errors import NoSuspect, NotSuspect
from tests.plain import check_call, difference, seeded

RING = [(0, 1, 4), (1, 2, 5), (0, 2, 10)]


def without(accounts, index):
    return [account for at, account in enumerate(accounts) if at != index]


def plain_parts(size, accounts):
    """The sets of connected nodes, as ascending lists."""
    parts = [{node} for node in range(size)]
    for first, second, _ in accounts:
        joined = [part for part in parts if first in part or second in part]
        parts = [part for part in parts if part not in joined] + [set().union(*joined)]
    return sorted(sorted(part) for part in parts)


def plain_agree(size, accounts):
    """Whether some levels meet all accounts: whether each way round gives nothing."""
    for part in plain_parts(size, accounts):
        levels = {part[0]: 0}
        while len(levels) < len(part):
            for first, second, value in accounts:
                if first in levels:
                    levels.setdefault(second, levels[first] + value)
                elif second in levels:
                    levels[first] = levels[second] - value
        if any(levels[b] - levels[a] != value for a, b, value in accounts if a in levels):
            return False
    return True


def plain_suspects(size, accounts):
    if plain_agree(size, accounts):
        return None
    return [index for index in range(len(accounts)) if plain_agree(size, without(accounts, index))]


def random_accounts(random, most=8):
    """Accounts that follow one list of levels, with none, one or two of them changed."""
    size = random.randint(1, 6)
    levels = [random.randint(-9, 9) for _ in range(size)]
    accounts = []
    for _ in range(random.randint(0, most)):
        first, second = random.choices(range(size), k=2)
        accounts.append((first, second, difference(levels, first, second)))
    for _ in range(random.choice([0, 1, 1, 1, 2])):
        if accounts:
            index = random.randrange(len(accounts))
            first, second, value = accounts[index]
            accounts[index] = (first, second, value + random.choice([-3, -1, 1, 2]))
    return size, accounts


def ring_accounts(random, many, more):
    """A ring of accounts with a gap, each of whose nodes has some more nodes hanging on it."""
    nodes = list(range(many))
    random.shuffle(nodes)
    accounts = [(nodes[at], nodes[(at + 1) % many], random.randint(-9, 9)) for at in range(many)]
    accounts = [random.choice([(a, b, value), (b, a, -value)]) for a, b, value in accounts]
    for node in range(many, many + more):
        accounts.append((random.randrange(node), node, random.randint(-9, 9)))
    random.shuffle(accounts)
    return many + more, accounts


class LevelsTest(unittest.TestCase):
    def check_levels(self, size, accounts, levels):
        self.assertEqual(check_call(self, account_levels, size, accounts), levels)

    def test_answers(self):
        self.check_levels(3, [(0, 1, 4), (1, 2, 5)], [0, 4, 9])
        self.check_levels(3, [(2, 1, 4), (1, 0, 5)], [0, -5, -9])
        self.check_levels(3, [(0, 1, 4), (1, 2, 5), (2, 0, -9), (0, 0, 0)], [0, 4, 9])
        self.check_levels(3, RING, None)

    def test_nodes_without_accounts(self):
        self.check_levels(1, [], [0])
        self.check_levels(4, [], [0, 0, 0, 0])
        self.check_levels(5, [(3, 1, 7), (4, 2, -2)], [0, 0, 0, -7, 2])
        self.check_levels(5, [(3, 1, 7), (4, 2, -2), (3, 3, 1)], None)

    def test_an_account_about_one_node(self):
        self.check_levels(2, [(1, 1, 0)], [0, 0])
        self.check_levels(2, [(1, 1, -3)], None)

    def test_random_accounts(self):
        random = seeded(611)
        for _ in range(300):
            size, accounts = random_accounts(random)
            levels = check_call(self, account_levels, size, accounts)
            self.assertEqual(levels is not None, plain_agree(size, accounts))
            if levels is not None:
                self.assertTrue(all(difference(levels, a, b) == value for a, b, value in accounts))
                self.assertTrue(all(levels[part[0]] == 0 for part in plain_parts(size, accounts)))


class SuspectsTest(unittest.TestCase):
    def check_suspects(self, size, accounts, answer):
        self.assertEqual(check_call(self, suspects, size, accounts), answer)
        self.assertEqual(plain_suspects(size, accounts), answer)

    def check_corrected(self, size, accounts, index, answer):
        self.assertEqual(check_call(self, corrected, size, accounts, index), answer)
        first, second, value = accounts[index]
        self.assertNotEqual(value, answer)
        accounts = [*accounts[:index], (first, second, answer), *accounts[index + 1:]]
        self.assertTrue(plain_agree(size, accounts))

    def check_no_suspect(self, size, accounts, index):
        with self.assertRaises(NotSuspect) as caught:
            corrected(size, accounts, index)
        self.assertEqual(caught.exception.index, index)

    def test_accounts_that_agree(self):
        for size, accounts in [(1, []), (4, []), (3, RING[:2]), (3, [*RING[:2], (2, 0, -9)]), (2, [(1, 1, 0)])]:
            self.check_suspects(size, accounts, None)
            for index in (0, 1, -1, 5):
                self.check_no_suspect(size, accounts, index)

    def test_many_suspects(self):
        self.check_suspects(3, RING, [0, 1, 2])
        for index, value in [(0, 5), (1, 6), (2, 9)]:
            self.check_corrected(3, RING, index, value)

    def test_one_suspect(self):
        accounts = [(0, 1, 4), (1, 0, -4), (0, 1, 7), (1, 2, 1)]
        self.check_suspects(3, accounts, [2])
        self.check_corrected(3, accounts, 2, 4)
        for index in (0, 1, 3, 4, -1, -2, 10 ** 11):
            self.check_no_suspect(3, accounts, index)

    def test_an_account_about_one_node(self):
        self.check_suspects(3, [(0, 1, 4), (2, 2, 5)], [1])
        self.check_corrected(3, [(0, 1, 4), (2, 2, 5)], 1, 0)
        self.check_suspects(3, [*RING, (2, 2, 5)], [])

    def test_no_suspect(self):
        apart = [(0, 1, 1), (0, 1, 2), (2, 3, 1), (2, 3, 2)]
        for size, accounts in [(4, apart), (2, [(0, 1, 1), (0, 1, 2), (0, 1, 3)]), (1, [(0, 0, 1), (0, 0, 2)])]:
            self.check_suspects(size, accounts, [])
            for index in (0, 1, -1, 9):
                self.check_no_suspect(size, accounts, index)

    def test_random_accounts(self):
        random = seeded(612)
        found = 0
        for _ in range(300):
            size, accounts = random_accounts(random)
            answer = plain_suspects(size, accounts)
            self.check_suspects(size, accounts, answer)
            for index in range(-1, len(accounts) + 1):
                if answer is not None and index in answer:
                    found += 1
                    levels = account_levels(size, without(accounts, index))
                    self.check_corrected(size, accounts, index, difference(levels, *accounts[index][:2]))
                else:
                    self.check_no_suspect(size, accounts, index)
        self.assertGreater(found, 100)


class RingTest(unittest.TestCase):
    def check_ring(self, size, accounts):
        answer = check_call(self, suspect_ring, size, accounts)
        self.assertIsInstance(answer, tuple)
        order, areas, gap = answer
        found = suspects(size, accounts)
        self.assertEqual(sorted(order), found)
        self.assertEqual(order[0], found[0])
        others = [account for index, account in enumerate(accounts) if index not in found]
        parts = plain_parts(size, others)
        ends = {node for index in found for node in accounts[index][:2]}
        joined = [part for part in plain_parts(size, accounts) if set(part) & ends]
        self.assertEqual(sorted(areas), [part for part in parts if part[0] in joined[0]])
        self.assertEqual(len(joined), 1)
        self.assertIn(accounts[order[0]][1], areas[0])
        levels = account_levels(size, others)
        total = 0
        came = accounts[order[0]][0]
        for at, index in enumerate(order):
            first, second, value = accounts[index]
            if came not in areas[at - 1] or second not in areas[at] or first not in areas[at - 1]:
                first, second, value = second, first, -value
            self.assertIn(first, areas[at - 1])
            self.assertIn(second, areas[at])
            # Within the area before this suspect, from where the ring comes in to where it leaves.
            if at > 0:
                total += levels[first] - levels[came]
            total += value
            came = second
        total += levels[accounts[order[0]][0]] - levels[came]
        self.assertEqual(gap, total)
        self.assertNotEqual(gap, 0)
        for index in order:
            first, second, value = accounts[index]
            self.assertEqual(abs(corrected(size, accounts, index) - value), abs(gap))
        self.assertEqual(corrected(size, accounts, order[0]), accounts[order[0]][2] - gap)
        return answer

    def test_the_example(self):
        self.assertEqual(check_call(self, suspect_ring, 3, RING), ([0, 1, 2], [[1], [2], [0]], -1))
        self.assertEqual(check_call(self, corrected, 3, RING, 1), 6)
        self.check_ring(3, RING)

    def test_the_other_direction(self):
        self.assertEqual(self.check_ring(3, [(1, 0, -4), *RING[1:]]), ([0, 2, 1], [[0], [2], [1]], 1))
        self.assertEqual(self.check_ring(3, [(0, 1, 4), (2, 1, -5), (2, 0, -10)])[::2], ([0, 1, 2], -1))

    def test_two_suspects(self):
        self.assertEqual(self.check_ring(2, [(0, 1, 4), (0, 1, 6)]), ([0, 1], [[1], [0]], -2))
        self.assertEqual(self.check_ring(2, [(1, 0, 4), (0, 1, 6)]), ([0, 1], [[0], [1]], 10))

    def test_one_suspect(self):
        accounts = [(0, 1, 4), (1, 0, -4), (1, 0, -7), (1, 2, 1), (3, 3, 0)]
        self.assertEqual(self.check_ring(4, accounts), ([2], [[0, 1, 2]], -7 + 4))
        self.assertEqual(self.check_ring(3, [(0, 1, 4), (2, 2, 5)]), ([1], [[2]], 5))
        self.assertEqual(self.check_ring(1, [(0, 0, -5)]), ([0], [[0]], -5))

    def test_areas_of_several_nodes(self):
        sure = [(0, 1, 2), (1, 0, -2), (3, 4, 5), (4, 3, -5), (5, 4, 1), (4, 5, -1)]
        accounts = [*sure, (1, 3, 7), (5, 0, -9)]
        order, areas, gap = self.check_ring(7, accounts)
        self.assertEqual((order, areas), ([6, 7], [[3, 4, 5], [0, 1]]))
        self.assertEqual(gap, 7 + (5 - 1) - 9 + 2)

    def test_no_suspects(self):
        for size, accounts in [
            (1, []), (3, RING[:2]), (2, [(1, 1, 0)]), (2, [(0, 1, 1), (0, 1, 2), (0, 1, 3)]), (3, [*RING, (2, 2, 5)]),
        ]:
            with self.assertRaises(NoSuspect):
                suspect_ring(size, accounts)

    def test_random_accounts(self):
        random = seeded(613)
        sizes = []
        for _ in range(600):
            size, accounts = random_accounts(random)
            if suspects(size, accounts):
                sizes.append(len(self.check_ring(size, accounts)[0]))
            else:
                with self.assertRaises(NoSuspect):
                    suspect_ring(size, accounts)
        self.assertGreater(sizes.count(1), 20)
        self.assertGreater(sizes.count(2), 20)
        self.assertGreater(len([many for many in sizes if many > 2]), 10)

    def test_large_rings(self):
        random = seeded(614)
        for many in (2, 3, 5, 9, 16):
            for _ in range(5):
                size, accounts = ring_accounts(random, many, min(4, 16 - many))
                if account_levels(size, accounts) is None:
                    self.assertEqual(len(self.check_ring(size, accounts)[0]), many)


if __name__ == "__main__":
    unittest.main()
