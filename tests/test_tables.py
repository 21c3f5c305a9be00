"""Points 22 to 25: closed tables."""

import unittest
from itertools import product

from counthall.claims import Claim
from counthall.errors import NoSuchNode
from counthall.frames import Frame
from counthall.readings import row_frame
from counthall.tables import (
    closed_table, column_mix, column_world, greatest_of, in_table, least_of, middle_worlds,
    pinned_worlds, row_world, table_of,
)
from tests.plain import (
    check_call, greatest_differences, random_claim, random_frame, seeded, worlds_of, worlds_with,
)

REACH = 6


def random_cases(number, many):
    """Small frames and claims with all their worlds."""
    random = seeded(number)
    for _ in range(many):
        size = random.choice([1, 2, 3, 4])
        frame = random_frame(random, size)
        claims = [random_claim(random, size) for _ in range(random.randrange(4))]
        yield frame, claims, worlds_with(worlds_of(frame, REACH), claims)


class ClosedTableTest(unittest.TestCase):
    def test_example(self):
        table = check_call(self, closed_table, row_frame([2, 3]), [Claim(0, 2, 4)])
        self.assertEqual(table, [[0, 2, 5], [-1, 0, 3], [-4, -2, 0]])
        self.assertEqual((row_world(table, 1), column_world(table, 1)), ([0, 1, 4], [0, 2, 4]))

    def test_no_claims(self):
        self.assertEqual(check_call(self, closed_table, row_frame([2, 3])), [[0, 2, 5], [0, 0, 3], [0, 0, 0]])
        self.assertEqual(closed_table(row_frame([2]), []), closed_table(row_frame([2])))
        self.assertEqual(closed_table(Frame(1, [])), [[0]])

    def test_claims_at_the_edge(self):
        frame = row_frame([2, 3])
        self.assertEqual(closed_table(frame, [Claim(0, 2, 5)]), [[0, 2, 5], [-2, 0, 3], [-5, -3, 0]])
        self.assertIsNone(closed_table(frame, [Claim(0, 2, 6)]))
        self.assertIsNone(closed_table(frame, [Claim(2, 0, 1, None)]))
        self.assertIsNone(closed_table(frame, [Claim(0, 1, 1), Claim(1, 2, 3), Claim(0, 2, None, 3)]))

    def test_claims_about_nothing(self):
        frame = row_frame([2, 3])
        self.assertEqual(closed_table(frame, [Claim(1, 1, 0, 0)]), closed_table(frame))
        self.assertEqual(closed_table(frame, [Claim(2, 2, -3, 4)]), closed_table(frame))
        self.assertIsNone(closed_table(frame, [Claim(1, 1, 1)]))
        self.assertIsNone(closed_table(frame, [Claim(1, 1, None, -1)]))
        self.assertIsNone(closed_table(Frame(1, []), [Claim(0, 0, 1, 2)]))

    def test_no_such_node(self):
        frame = row_frame([2, 3])
        clash = Claim(1, 1, 1)
        for claims, index in [
            ([Claim(0, 3)], 0), ([Claim(3, 0)], 0), ([clash, Claim(2, 0), Claim(3, 3), Claim(15, 0)], 2),
        ]:
            with self.assertRaises(NoSuchNode) as caught:
                closed_table(frame, claims)
            self.assertEqual(caught.exception.index, index)

    def test_against_a_plain_search(self):
        without = 0
        for frame, claims, worlds in random_cases(22, 250):
            table = check_call(self, closed_table, frame, claims)
            if not worlds:
                without += 1
                self.assertIsNone(table)
                continue
            self.assertEqual(table, greatest_differences(worlds))
        self.assertGreater(without, 30)


class WorldsOfTableTest(unittest.TestCase):
    def test_worlds_rows_and_columns(self):
        for frame, claims, worlds in random_cases(23, 120):
            if not worlds:
                continue
            table = closed_table(frame, claims)
            for levels in worlds:
                self.assertIs(check_call(self, in_table, table, levels), True)
            for rest in product(range(-REACH, REACH + 1), repeat=min(frame.size - 1, 2)):
                levels = [0, *rest, *[0] * (frame.size - 1 - len(rest))]
                self.assertIs(in_table(table, levels), levels in worlds)
            for node in range(frame.size):
                row = check_call(self, row_world, table, node)
                column = check_call(self, column_world, table, node)
                self.assertIn(row, worlds)
                self.assertIn(column, worlds)
                for other in range(frame.size):
                    differences = [levels[other] - levels[node] for levels in worlds]
                    self.assertEqual(row[other] - row[node], max(differences))
                    self.assertEqual(column[other] - column[node], min(differences))

    def test_level_of_node_0(self):
        table = closed_table(row_frame([2, 3]))
        self.assertIs(in_table(table, [0, 1, 2]), True)
        self.assertIs(in_table(table, [1, 2, 3]), False)

    def test_pinned_worlds(self):
        table = closed_table(row_frame([2, 3]), [Claim(0, 2, 4)])
        self.assertEqual(check_call(self, pinned_worlds, table, 1, 2), ([0, 2, 4], [0, 2, 5]))
        self.assertEqual(check_call(self, pinned_worlds, table, 2, 4), ([0, 1, 4], [0, 2, 4]))
        self.assertEqual(check_call(self, pinned_worlds, table, 0, 0), ([0, 1, 4], [0, 2, 5]))
        for node, level in [(1, 0), (1, 3), (2, 3), (2, 6), (0, 1), (0, -1)]:
            self.assertIsNone(pinned_worlds(table, node, level))

    def test_pinned_worlds_against_a_plain_search(self):
        for frame, claims, worlds in random_cases(24, 120):
            if not worlds:
                continue
            table = closed_table(frame, claims)
            for node in range(frame.size):
                for level in range(-REACH, REACH + 1):
                    pinned = [levels for levels in worlds if levels[node] == level]
                    answer = check_call(self, pinned_worlds, table, node, level)
                    if not pinned:
                        self.assertIsNone(answer)
                        continue
                    self.assertIsInstance(answer, tuple)
                    self.assertEqual(answer[0], [min(items) for items in zip(*pinned)])
                    self.assertEqual(answer[1], [max(items) for items in zip(*pinned)])
                    self.assertIn(answer[0], worlds)
                    self.assertIn(answer[1], worlds)


class MixesOfWorldsTest(unittest.TestCase):
    def test_middle_worlds_rounds_below_zero_too(self):
        answer = check_call(self, middle_worlds, [0, 1, -1, -4, 3], [0, 2, -2, -3, 5])
        self.assertEqual(answer, ([0, 1, -2, -4, 4], [0, 2, -1, -3, 4]))
        self.assertIsInstance(answer, tuple)

    def test_least_greatest_and_table(self):
        worlds = [[0, 1, 4], [0, 2, 4], [0, 2, 5]]
        self.assertEqual(check_call(self, least_of, worlds), [0, 1, 4])
        self.assertEqual(check_call(self, greatest_of, worlds), [0, 2, 5])
        self.assertEqual(check_call(self, table_of, worlds), [[0, 2, 5], [-1, 0, 3], [-4, -2, 0]])
        self.assertEqual(table_of([[0, 3]]), [[0, 3], [-3, 0]])
        self.assertEqual(least_of([[0]]), [0])

    def test_column_mix(self):
        table = closed_table(row_frame([2, 3]), [Claim(0, 2, 4)])
        self.assertEqual(check_call(self, column_mix, table, [0, 1, 5]), [0, 2, 5])
        self.assertEqual(check_call(self, column_mix, table, [0, 2, 5]), [0, 2, 5])
        self.assertEqual(check_call(self, column_mix, table, [0, 9, -50]), column_world(table, 1))

    def test_mixes_are_worlds(self):
        random = seeded(25)
        for frame, claims, worlds in random_cases(26, 120):
            if not worlds:
                continue
            table = closed_table(frame, claims)
            for _ in range(5):
                shifts = [random.randint(-8, 8) for _ in range(frame.size)]
                mixed = check_call(self, column_mix, table, shifts)
                self.assertIn(mixed, worlds)
                tops = [max(shift - item for shift, item in zip(shifts, row)) for row in table]
                self.assertEqual(mixed, [top - tops[0] for top in tops])
                some = [random.choice(worlds) for _ in range(random.randint(1, 4))]
                self.assertEqual(column_mix(table, some[0]), some[0])
                self.assertIn(check_call(self, least_of, some), worlds)
                self.assertIn(check_call(self, greatest_of, some), worlds)
                self.assertEqual(check_call(self, table_of, some), greatest_differences(some))
                for levels in check_call(self, middle_worlds, some[0], some[-1]):
                    self.assertIn(levels, worlds)
            self.assertEqual(table_of(worlds), table)


if __name__ == "__main__":
    unittest.main()
