"""Points 10 to 13: rows, rings, stands and kinds."""

import unittest
from itertools import product

from counthall.errors import InvalidClaim, InvalidFrame
from counthall.readings import (
    arc_claim, cell_run, count_claim, lead_claim, ring_frame, row_counts, row_frame, row_levels,
    run_claim, stand_counts, stand_frame, stand_levels,
)
from tests.plain import check_call, check_part


class RowTest(unittest.TestCase):
    def test_example(self):
        self.assertEqual(row_frame([2, 3]).rules, ((0, 1, 0, 2), (1, 2, 0, 3)))
        self.assertEqual(row_frame((2, 3)).rules, ((0, 1, 0, 2), (1, 2, 0, 3)))
        self.assertEqual(row_frame([0]).rules, ((0, 1, 0, 0),))
        self.assertEqual(row_frame([1] * 15).size, 16)

    def test_errors(self):
        check_part(self, InvalidFrame, "size", row_frame, [])
        check_part(self, InvalidFrame, "size", row_frame, [1] * 16)
        check_part(self, InvalidFrame, "size", row_frame, [-1] * 16)
        check_part(self, InvalidFrame, "rules", row_frame, [3, -1])

    def test_levels_and_counts(self):
        self.assertEqual(check_call(self, row_levels, [2, 0, 5]), [0, 2, 2, 7])
        self.assertEqual(check_call(self, row_counts, [0, 2, 2, 7]), [2, 0, 5])
        frame = row_frame([2, 1])
        for counts in product(range(-1, 4), repeat=2):
            self.assertEqual(row_counts(row_levels(counts)), list(counts))
            self.assertEqual(frame.allows(row_levels(counts)), 0 <= counts[0] <= 2 and 0 <= counts[1] <= 1)

    def test_run_claim(self):
        self.assertEqual(run_claim(1, 4, 2, 6, weight=5).parts(), (1, 4, 2, 6, 5))
        self.assertEqual(run_claim(3, 3).parts(), (3, 3, None, None, 1))
        self.assertEqual(run_claim(0, 15, 2).parts(), (0, 15, 2, None, 1))
        self.assertEqual(run_claim(15, 15, None, 2).parts(), (15, 15, None, 2, 1))
        claim = run_claim(1, 3, 4, 5)
        for counts in product(range(4), repeat=3):
            self.assertEqual(claim.holds(row_levels(counts)), 4 <= sum(counts[1:3]) <= 5)

    def test_run_claim_errors(self):
        for start, stop in [(-1, 2), (3, 2), (0, 16), (16, 16)]:
            check_part(self, InvalidClaim, "nodes", run_claim, start, stop, 3, 2, weight=0)
        check_part(self, InvalidClaim, "bounds", run_claim, 1, 2, 3, 2, weight=0)
        check_part(self, InvalidClaim, "weight", run_claim, 1, 2, 3, 3, weight=100)


class RingTest(unittest.TestCase):
    def test_frame(self):
        self.assertEqual(ring_frame([2, 3], 4).rules, ((0, 1, 0, 2), (1, 2, 0, 3), (0, 2, 4, 4)))
        self.assertEqual(ring_frame((2, 3), 4).rules, ring_frame([2, 3], 4).rules)
        self.assertEqual(ring_frame([2], 2).rules, ((0, 1, 0, 2), (0, 1, 2, 2)))
        ring_frame([2, 3], 0)
        ring_frame([2, 3], 5)

    def test_frame_errors(self):
        check_part(self, InvalidFrame, "size", ring_frame, [], 0)
        check_part(self, InvalidFrame, "size", ring_frame, [1] * 16, -1)
        check_part(self, InvalidFrame, "rules", ring_frame, [3, -1], -1)
        check_part(self, InvalidFrame, "clash", ring_frame, [2, 3], -1)
        check_part(self, InvalidFrame, "clash", ring_frame, [2, 3], 6)

    def test_example(self):
        self.assertEqual(arc_claim(4, 10, 3, 2, 1, 4).parts(), (1, 3, 6, 9, 1))

    def test_arc_that_just_reaches_the_end(self):
        self.assertEqual(arc_claim(4, 10, 2, 2, 1, 4, weight=7).parts(), (2, 4, 1, 4, 7))
        self.assertEqual(arc_claim(4, 10, 0, 4, 1, 4).parts(), (0, 4, 1, 4, 1))
        self.assertEqual(arc_claim(4, 10, 3, 0, 1, 4).parts(), (3, 3, 1, 4, 1))

    def test_arc_that_passes_the_end(self):
        self.assertEqual(arc_claim(4, 10, 2, 3, 1, None, weight=7).parts(), (1, 2, None, 9, 7))
        self.assertEqual(arc_claim(4, 10, 2, 3, None, 4).parts(), (1, 2, 6, None, 1))
        self.assertEqual(arc_claim(4, 10, 2, 3).parts(), (1, 2, None, None, 1))
        self.assertEqual(arc_claim(4, 10, 2, 4, 9, 10).parts(), (2, 2, 0, 1, 1))

    def test_ring_of_one_box(self):
        self.assertEqual(arc_claim(1, 5, 0, 1, 4, 6).parts(), (0, 1, 4, 6, 1))
        self.assertEqual(arc_claim(1, 5, 0, 0, 4, 6).parts(), (0, 0, 4, 6, 1))

    def test_arcs_say_what_they_mean(self):
        boxes, total = 3, 4
        for counts in product(range(total + 1), repeat=boxes):
            if sum(counts) != total:
                continue
            for start, length, low in product(range(boxes), range(boxes + 1), range(total + 1)):
                true = sum(counts[(start + step) % boxes] for step in range(length))
                claim = arc_claim(boxes, total, start, length, low, low + 1)
                self.assertEqual(claim.holds(row_levels(counts)), low <= true <= low + 1)

    def test_arc_errors(self):
        for boxes, start, length in [(0, 0, 0), (16, 0, 1), (4, -1, 1), (4, 4, 1), (4, 1, -1), (4, 1, 5)]:
            check_part(self, InvalidClaim, "nodes", arc_claim, boxes, 9, start, length, 3, 2, weight=0)
        for length in (1, 4):
            check_part(self, InvalidClaim, "bounds", arc_claim, 4, 9, 2, length, 3, 2, weight=0)
            check_part(self, InvalidClaim, "weight", arc_claim, 4, 9, 2, length, 3, 3, weight=0)
        self.assertEqual(arc_claim(15, 9, 14, 15).parts(), (14, 14, None, None, 1))


class StandTest(unittest.TestCase):
    def test_frame(self):
        self.assertEqual(stand_frame([2, 3]).rules, ((0, 1, 0, 2), (0, 2, 0, 3)))
        self.assertEqual(stand_frame((2, 3)).rules, ((0, 1, 0, 2), (0, 2, 0, 3)))
        self.assertEqual(stand_frame([1] * 15).size, 16)

    def test_frame_errors(self):
        check_part(self, InvalidFrame, "size", stand_frame, [])
        check_part(self, InvalidFrame, "size", stand_frame, [-1] * 16)
        check_part(self, InvalidFrame, "rules", stand_frame, [3, -1])

    def test_levels_and_counts(self):
        self.assertEqual(check_call(self, stand_levels, [2, 0, 5]), [0, 2, 0, 5])
        self.assertEqual(check_call(self, stand_counts, [0, 2, 0, 5]), [2, 0, 5])

    def test_claims(self):
        self.assertEqual(count_claim(2, 1, 4, weight=3).parts(), (0, 3, 1, 4, 3))
        self.assertEqual(count_claim(14).parts(), (0, 15, None, None, 1))
        self.assertEqual(lead_claim(2, 0, 1, 4, weight=3).parts(), (1, 3, 1, 4, 3))
        self.assertEqual(lead_claim(1, 1).parts(), (2, 2, None, None, 1))
        for counts in product(range(4), repeat=2):
            levels = stand_levels(counts)
            self.assertEqual(count_claim(1, 2, 3).holds(levels), 2 <= counts[1] <= 3)
            self.assertEqual(lead_claim(0, 1, 0).holds(levels), counts[0] >= counts[1])

    def test_claim_errors(self):
        for box in (-1, 15):
            check_part(self, InvalidClaim, "nodes", count_claim, box, 3, 2, weight=0)
            check_part(self, InvalidClaim, "nodes", lead_claim, box, 0, 3, 2, weight=0)
            check_part(self, InvalidClaim, "nodes", lead_claim, 0, box, 3, 2, weight=0)
        check_part(self, InvalidClaim, "bounds", count_claim, 0, 3, 2, weight=0)
        check_part(self, InvalidClaim, "bounds", lead_claim, 0, 1, 3, 2, weight=0)
        check_part(self, InvalidClaim, "weight", count_claim, 0, weight=0)
        check_part(self, InvalidClaim, "weight", lead_claim, 0, 1, weight=100)


class KindsTest(unittest.TestCase):
    def test_cells(self):
        self.assertEqual(cell_run(3, 2), (6, 9))
        self.assertEqual(cell_run(3, 2, 0), (6, 7))
        self.assertEqual(cell_run(3, 2, 2), (8, 9))
        self.assertEqual(cell_run(1, 14), (14, 15))
        self.assertEqual(cell_run(15, 0), (0, 15))
        self.assertEqual(run_claim(*cell_run(5, 2), 1, 2).parts(), (10, 15, 1, 2, 1))


if __name__ == "__main__":
    unittest.main()
