"""Point 99: within the limits each call returns within about a second."""

import unittest
from itertools import combinations

from counthall.chains import chain_end, clash_ring, least_chain
from counthall.claims import Claim
from counthall.doubts import AtMost
from counthall.exact import exact_counts, parting_values
from counthall.fitting import fitting_lots, least_lots, lightest_lot
from counthall.halls import Hall
from counthall.ledger import Ledger
from counthall.lots import hitting_sets, largest_lots, least_cover, least_sets, least_sure_groups
from counthall.readings import ring_frame, row_frame, stand_frame
from counthall.runs import Runs
from counthall.tables import closed_table, column_mix, in_table, pinned_worlds, table_of
from tests.hard import FAR, TimedTest, hard_claims, hard_doubts, hard_frame
from tests.plain import seeded


class LimitsTest(TimedTest):
    def test_runs(self):
        random = seeded(1)
        one = self.timed(Runs, [(4 * at, 4 * at + 1) for at in random.sample(range(300), 300)])
        other = self.timed(Runs, [(4 * at + 1, 4 * at + 2) for at in random.sample(range(300), 300)])
        self.assertEqual(len(self.timed(lambda: one & other).pairs), 300)
        self.assertEqual(len(self.timed(lambda: one | other).pairs), 300)
        self.assertEqual(self.timed(one.gaps).size(), 2 * 299)
        self.assertEqual(self.timed(Runs([(-10 ** 12 + 1, 10 ** 12 - 1)]).size), 2 * 10 ** 12 - 1)

    def test_frames_and_tables(self):
        random = seeded(2)
        for spread in (10, FAR // 4):
            frame, world = self.timed(hard_frame, random, spread)
            self.assertTrue(self.timed(frame.allows, world))
            claims = [claim.widened(2 * spread) for claim in hard_claims(random, world, 40, spread)]
            table = self.timed(closed_table, frame, claims)
            self.assertTrue(self.timed(in_table, table, world))
            self.assertIsNotNone(self.timed(pinned_worlds, table, 7, world[7]))
            self.assertEqual(self.timed(column_mix, table, world), world)
            self.timed(table_of, [world] * 300)
            total, chain = self.timed(least_chain, frame, claims, 3, 11)
            self.assertEqual(total, table[3][11])
            self.assertEqual(self.timed(chain_end, frame, claims, 3, chain), (11, total))
            self.assertIsNone(self.timed(clash_ring, frame, claims))
            clashing = [*claims[:-1], Claim(5, 9, world[9] - world[5] + 5 * FAR)]
            self.assertIsNone(self.timed(closed_table, frame, clashing))
            self.assertIsNotNone(self.timed(clash_ring, frame, clashing))

    def test_readings(self):
        rooms = [10 ** 12 - 1] * 15
        for frame in (self.timed(row_frame, rooms), self.timed(ring_frame, rooms, 1), self.timed(stand_frame, rooms)):
            self.assertEqual(frame.size, 16)
        for boxes, last in [(15, 0), (1, 14), (3, 4)]:
            self.assertEqual(self.timed(Ledger, [9] * boxes, last, gates=[0] * boxes).frame.size, 16)

    def test_lots(self):
        random = seeded(3)
        for doubt in hard_doubts(random):
            weights = [random.randint(1, 99) for _ in range(10)]
            self.timed(doubt.allows, list(range(10)), weights)
            for function in (largest_lots, least_sure_groups, least_cover, parting_values):
                self.timed(function, doubt, weights)
            self.timed(exact_counts, doubt, weights, list(range(10)))
        self.assertEqual(len(self.timed(largest_lots, AtMost(5), [1] * 10)), 252)
        self.assertEqual(self.timed(least_cover, AtMost(5), [1] * 10)[0], 2)

    def test_sets(self):
        random = seeded(4)
        every = [list(chosen) for size in range(3, 8) for chosen in combinations(range(10), size)]
        for sets in (every[-260:], every[120:380], random.sample(every, 260), every[:260]):
            least = self.timed(least_sets, sets)
            hitting = self.timed(hitting_sets, sets)
            self.assertEqual(self.timed(hitting_sets, hitting), least)

    def test_fitting(self):
        random = seeded(5)
        for doubt in hard_doubts(random):
            for spread in (3, FAR // 8):
                frame, world = hard_frame(random, spread)
                hall = self.timed(Hall, frame, hard_claims(random, world, 10, spread), doubt=doubt)
                for function in (fitting_lots, least_lots):
                    self.timed(function, hall)
                if least_lots(hall):
                    self.timed(lightest_lot, hall)
        frame, world = hard_frame(random, 5)
        hall = self.timed(Hall, frame, hard_claims(random, world, 40, 5))
        self.timed(hall.untrue, world)


if __name__ == "__main__":
    unittest.main()
