"""Points 14 and 15: hours."""

import unittest

from counthall.errors import InvalidClaim, InvalidFrame
from counthall.ledger import Ledger
from tests.plain import check_call, check_part, seeded


class LedgerTest(unittest.TestCase):
    def test_example(self):
        ledger = Ledger([4, 4], 1)
        self.assertEqual(ledger.levels_of([[1, 2], [0, 3]]), [0, 1, 3, 0, 3])
        self.assertEqual(ledger.passed([0, 1, 3, 0, 3], 1, 0, 1), 1)

    def test_attributes(self):
        ledger = Ledger([4, 5], 1, gates=[None, 0])
        self.assertEqual((ledger.rooms, ledger.last, ledger.gates), ((4, 5), 1, (None, 0)))
        self.assertEqual(Ledger([4, 5], 0).gates, (None, None))
        self.assertEqual(Ledger((4, 5), 1, gates=(None, 0)).frame.rules, ledger.frame.rules)

    def test_frame(self):
        ledger = Ledger([4, 5], 2, gates=[3, None])
        rooms = [(0, 1, 0, 4), (1, 2, 0, 5), (0, 3, 0, 4), (3, 4, 0, 5), (0, 5, 0, 4), (5, 6, 0, 5)]
        self.assertEqual(ledger.frame.size, 7)
        self.assertEqual(ledger.frame.rules, (*rooms, (1, 3, -3, 3), (3, 5, -3, 3)))
        gated = Ledger([4, 5], 2, gates=[0, 7])
        gates = [(1, 3, 0, 0), (3, 5, 0, 0), (2, 4, -7, 7), (4, 6, -7, 7)]
        self.assertEqual(gated.frame.rules, (*rooms, *gates))
        self.assertEqual(Ledger([4, 5], 0, gates=[1, 1]).frame.rules, ((0, 1, 0, 4), (1, 2, 0, 5)))
        self.assertEqual(Ledger([4, 5], 2).frame.rules, tuple(rooms))

    def test_most_nodes(self):
        self.assertEqual(Ledger([1] * 15, 0).frame.size, 16)
        self.assertEqual(Ledger([1], 14).frame.size, 16)
        self.assertEqual(Ledger([1] * 5, 2).frame.size, 16)

    def test_rooms_and_gates_of_0(self):
        ledger = Ledger([0, 3], 1, gates=[0, 0])
        self.assertEqual((ledger.rooms, ledger.gates), ((0, 3), (0, 0)))
        self.assertTrue(ledger.frame.allows([0, 0, 3, 0, 3]))
        self.assertFalse(ledger.frame.allows([0, 0, 3, 0, 2]))

    def test_errors(self):
        for rooms, last in [([], 0), ([], -1), ([1], -1), ([1] * 16, 0), ([1], 15), ([1] * 5, 3)]:
            check_part(self, InvalidFrame, "size", Ledger, rooms, last)
        check_part(self, InvalidFrame, "size", Ledger, [-1], -1, gates=[1, 2])
        check_part(self, InvalidFrame, "size", Ledger, [-1] * 16, 0)
        check_part(self, InvalidFrame, "size", Ledger, [9, -1], 7, gates=[-1])
        check_part(self, InvalidFrame, "rules", Ledger, [1, -1], 1)
        check_part(self, InvalidFrame, "rules", Ledger, [1, 1], 1, gates=[])
        check_part(self, InvalidFrame, "rules", Ledger, [1, 1], 1, gates=[1])
        check_part(self, InvalidFrame, "rules", Ledger, [1, 1], 1, gates=[1, 1, 1])
        check_part(self, InvalidFrame, "rules", Ledger, [1, 1], 1, gates=[None, -1])
        check_part(self, InvalidFrame, "rules", Ledger, [1, 1], 0, gates=[-1, None])

    def test_caller_changes_its_lists(self):
        rooms, gates = [4, 4], [1, None]
        ledger = Ledger(rooms, 1, gates=gates)
        rooms.append(9)
        gates[1] = 5
        self.assertEqual((ledger.rooms, ledger.gates), ((4, 4), (1, None)))
        self.assertEqual(ledger.node(2, 1), 4)

    def test_node(self):
        ledger = Ledger([1, 1, 1], 2)
        nodes = [[ledger.node(border, hour) for border in range(4)] for hour in range(3)]
        self.assertEqual(nodes, [[0, 1, 2, 3], [0, 4, 5, 6], [0, 7, 8, 9]])

    def test_levels_and_counts(self):
        ledger = Ledger([4, 4, 4], 1)
        self.assertEqual(check_call(self, ledger.levels_of, [[1, 2, 0], [-3, 9, 1]]), [0, 1, 3, 3, -3, 6, 7])
        self.assertEqual(check_call(self, ledger.counts_of, [0, 1, 3, 3, -3, 6, 7]), [[1, 2, 0], [-3, 9, 1]])

    def test_passed_balances_the_counts(self):
        random = seeded(15)
        ledger = Ledger([9, 9, 9], 3)
        for _ in range(50):
            counts = [[random.randint(-5, 9) for _ in range(3)] for _ in range(4)]
            levels = ledger.levels_of(counts)
            self.assertEqual(ledger.counts_of(levels), counts)
            for since in range(4):
                for until in range(since, 4):
                    flows = [ledger.passed(levels, border, since, until) for border in range(4)]
                    self.assertEqual(flows[0], 0)
                    if since == until:
                        self.assertEqual(flows, [0, 0, 0, 0])
                    for box in range(3):
                        grown = counts[until][box] - counts[since][box]
                        self.assertEqual(grown, flows[box] - flows[box + 1])

    def test_sum_claim(self):
        ledger = Ledger([4, 4], 1)
        self.assertEqual(ledger.sum_claim(1, 0, 2, 3, 5, weight=2).parts(), (0, 4, 3, 5, 2))
        self.assertEqual(ledger.sum_claim(1, 1, 2).parts(), (3, 4, None, None, 1))
        self.assertEqual(ledger.sum_claim(0, 1, 1).parts(), (1, 1, None, None, 1))
        self.assertEqual(ledger.sum_claim(0, 0, 0, 1).parts(), (0, 0, 1, None, 1))
        for hour, start, stop in [
            (-1, 0, 1), (-1, 0, 2), (-1, 0, 0), (2, 0, 0), (2, 0, 1), (0, -1, 1), (0, 0, 3), (0, 2, 1), (0, 3, 3),
        ]:
            check_part(self, InvalidClaim, "nodes", ledger.sum_claim, hour, start, stop, 3, 2, weight=0)
        check_part(self, InvalidClaim, "bounds", ledger.sum_claim, 0, 0, 1, 3, 2, weight=0)
        check_part(self, InvalidClaim, "weight", ledger.sum_claim, 0, 0, 1, weight=0)

    def test_passage_claim(self):
        ledger = Ledger([4, 4], 2)
        self.assertEqual(ledger.passage_claim(1, 0, 2, -1, 1, weight=2).parts(), (5, 1, -1, 1, 2))
        self.assertEqual(ledger.passage_claim(2, 1, 1).parts(), (4, 4, None, None, 1))
        self.assertEqual(ledger.passage_claim(0, 0, 2, 1, 2).parts(), (0, 0, 1, 2, 1))
        levels = ledger.levels_of([[1, 2], [0, 3], [0, 0]])
        self.assertTrue(ledger.passage_claim(1, 0, 1, 1, 1).holds(levels))
        self.assertTrue(ledger.passage_claim(2, 0, 2, 3, 3).holds(levels))
        for border, since, until in [
            (-1, 0, 1), (-1, 1, 1), (3, 0, 1), (1, -1, 1), (2, -1, 0), (0, -1, 0), (0, 0, 3), (1, 0, 3), (1, 2, 1),
            (1, 3, 3),
        ]:
            check_part(self, InvalidClaim, "nodes", ledger.passage_claim, border, since, until, 3, 2, weight=0)
        check_part(self, InvalidClaim, "bounds", ledger.passage_claim, 1, 0, 1, 3, 2, weight=0)
        check_part(self, InvalidClaim, "weight", ledger.passage_claim, 1, 0, 1, weight=100)


if __name__ == "__main__":
    unittest.main()
