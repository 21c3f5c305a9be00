"""Points 7 and 8: frames."""

import unittest
from itertools import product

from counthall.errors import InvalidFrame
from counthall.frames import Frame
from tests.plain import check_part, seeded


class FrameTest(unittest.TestCase):
    def test_attributes(self):
        frame = Frame(3, [(0, 1, 0, 4), (2, 1, -1, 3)])
        self.assertEqual(frame.size, 3)
        self.assertEqual(frame.rules, ((0, 1, 0, 4), (2, 1, -1, 3)))
        self.assertIsInstance(frame.rules, tuple)
        self.assertEqual(Frame(3, ((0, 1, 0, 4), (2, 1, -1, 3))).rules, frame.rules)

    def test_caller_changes_its_list(self):
        rules = [(0, 1, 0, 4)]
        frame = Frame(2, rules)
        rules.append((0, 1, 9, 9))
        self.assertEqual(frame.rules, ((0, 1, 0, 4),))
        self.assertTrue(frame.allows([0, 2]))
        table = frame.base_table()
        table[0][1] = 99
        self.assertEqual(frame.base_table(), [[0, 4], [0, 0]])

    def test_one_node_and_sixteen(self):
        self.assertTrue(Frame(1, []).allows([0]))
        self.assertFalse(Frame(1, []).allows([1]))
        frame = Frame(16, [(node, node + 1, 1, 1) for node in range(15)])
        self.assertTrue(frame.allows(list(range(16))))
        for size in (0, -1, 17):
            check_part(self, InvalidFrame, "size", Frame, size, [])

    def test_number_of_rules(self):
        self.assertEqual(len(Frame(2, [(0, 1, 0, 4)] * 60).rules), 60)
        check_part(self, InvalidFrame, "rules", Frame, 2, [(0, 1, 0, 4)] * 61)

    def test_wrong_rules(self):
        good = (0, 1, 0, 4)
        for rule in [(0, 2, 0, 1), (2, 0, 0, 1), (-1, 0, 0, 1), (0, -1, 0, 1), (1, 1, 0, 0), (0, 1, 2, 1)]:
            check_part(self, InvalidFrame, "rules", Frame, 2, [rule])
            check_part(self, InvalidFrame, "rules", Frame, 2, [good, rule])

    def test_open(self):
        check_part(self, InvalidFrame, "open", Frame, 2, [])
        check_part(self, InvalidFrame, "open", Frame, 3, [(1, 2, 0, 1)])
        check_part(self, InvalidFrame, "open", Frame, 4, [(0, 1, 0, 1), (2, 3, 0, 1)])
        # Connected over other nodes, in either direction and in any order of the rules.
        Frame(4, [(3, 2, 0, 1), (2, 1, 0, 1), (1, 0, 0, 1)])
        Frame(4, [(2, 3, 0, 1), (1, 2, 0, 1), (0, 1, 0, 1)])

    def test_world_that_just_exists_and_one_that_does_not(self):
        self.assertTrue(Frame(2, [(0, 1, 0, 3), (0, 1, 3, 5)]).allows([0, 3]))
        check_part(self, InvalidFrame, "clash", Frame, 2, [(0, 1, 0, 3), (0, 1, 4, 5)])
        self.assertTrue(Frame(2, [(0, 1, 0, 3), (1, 0, -5, -3)]).allows([0, 3]))
        check_part(self, InvalidFrame, "clash", Frame, 2, [(0, 1, 0, 3), (1, 0, -5, -4)])
        round_trip = [(0, 1, 1, 2), (1, 2, 1, 2), (2, 3, 1, 2)]
        self.assertTrue(Frame(4, [*round_trip, (0, 3, 6, 9)]).allows([0, 2, 4, 6]))
        check_part(self, InvalidFrame, "clash", Frame, 4, [*round_trip, (0, 3, 7, 9)])
        self.assertTrue(Frame(4, [*round_trip, (3, 0, -3, 9)]).allows([0, 1, 2, 3]))
        check_part(self, InvalidFrame, "clash", Frame, 4, [*round_trip, (3, 0, -2, 9)])
        far = 10 ** 9
        self.assertTrue(Frame(2, [(0, 1, far, far), (1, 0, -far, -far)]).allows([0, far]))
        check_part(self, InvalidFrame, "clash", Frame, 2, [(0, 1, far, far), (0, 1, -far, -far)])

    def test_first_wrong_part_counts(self):
        check_part(self, InvalidFrame, "size", Frame, 17, [(0, 0, 2, 1)] * 61)
        check_part(self, InvalidFrame, "rules", Frame, 3, [(0, 1, 2, 1)])
        check_part(self, InvalidFrame, "open", Frame, 3, [(0, 1, 0, 3), (0, 1, 4, 5)])

    def test_allows(self):
        frame = Frame(3, [(0, 1, 0, 4), (2, 1, -1, 3)])
        self.assertIs(frame.allows([0, 4, 1]), True)
        self.assertIs(frame.allows((0, 4, 1)), True)
        for levels in [[0, 5, 3], [0, -1, 0], [0, 4, 0], [0, 0, 2], [1, 4, 1], [], [0], [0, 4], [0, 4, 1, 0]]:
            self.assertIs(frame.allows(levels), False)

    def test_against_a_plain_search(self):
        random = seeded(8)
        clashes = 0
        for _ in range(300):
            rules = []
            for _ in range(random.randrange(2, 7)):
                first, second = random.sample(range(3), 2)
                low = random.randint(-2, 2)
                rules.append((first, second, low, random.randint(low, 2)))
            if {node for rule in rules for node in rule[:2]} != {0, 1, 2}:
                continue
            worlds = [
                [0, *rest] for rest in product(range(-4, 5), repeat=2)
                if all(low <= [0, *rest][j] - [0, *rest][i] <= high for i, j, low, high in rules)
            ]
            if not worlds:
                clashes += 1
                check_part(self, InvalidFrame, "clash", Frame, 3, rules)
                continue
            frame = Frame(3, rules)
            for rest in product(range(-4, 5), repeat=2):
                self.assertEqual(frame.allows([0, *rest]), [0, *rest] in worlds)
        self.assertGreater(clashes, 20)


if __name__ == "__main__":
    unittest.main()
