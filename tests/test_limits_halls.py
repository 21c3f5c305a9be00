"""Point 99 for the questions about the fitting worlds of a hall."""

import unittest

from counthall.carriers import breakers, carriers
from counthall.claims import Claim
from counthall.doubts import AtMost
from counthall.errors import NoWorld
from counthall.frames import Frame
from counthall.halls import Hall
from counthall.holders import (
    possible_among, rank_range, rank_worlds, shortfall, sum_range, sum_worlds, sure_among,
)
from counthall.readings import lead_claim
from counthall.seatranges import seat_range, seat_worlds, sure_seats
from counthall.seats import divide, seat_order
from counthall.shares import share_verdict
from counthall.sheaves import accepts_sheaf, counter, sheaf
from counthall.spans import hull, possible_values, span, standings, verdict
from tests.hard import FAR, TimedTest, hard_doubts, hard_halls
from tests.plain import seeded

ALL = list(range(16))


def linked_frame(random, most):
    """A frame of 16 nodes with 60 rules whose levels go from 0 to a number."""
    rules = [(0, node, 0, most) for node in range(1, 16)]
    pairs = [random.sample(range(1, 16), 2) for _ in range(45)]
    return Frame(16, [*rules, *[(*pair, 1 - most, most - 1) for pair in pairs]])


class HallLimitsTest(TimedTest):
    def timed_fitting(self, function, *arguments, **named):
        """The answer of a timed call, or None if no world fits."""
        try:
            return self.timed(function, *arguments, **named)
        except NoWorld:
            return None

    def test_spans(self):
        fitting = 0
        for hall, first, second in hard_halls(7):
            reach = self.timed_fitting(span, hall, first, second)
            for function in (hull, standings):
                self.timed_fitting(function, hall)
            self.timed_fitting(possible_values, hall, first, second)
            if reach is not None:
                fitting += 1
                for low, high in [(reach[0], reach[0]), (reach[1], reach[0]), reach]:
                    self.timed(verdict, hall, first, second, low, high)
        self.assertGreater(fitting, 20)

    def test_sheaves_and_carriers(self):
        most = 0
        for hall, first, second in hard_halls(8):
            reach = self.timed_fitting(span, hall, first, second) or (-FAR, FAR)
            for high in (reach[1] - 1, reach[1]):
                bound = (first, second, high)
                papers = self.timed(sheaf, hall, *bound)
                self.assertEqual(papers is None, self.timed(counter, hall, *bound) is not None)
                if papers is not None:
                    most = max(most, len(papers))
                    self.assertTrue(self.timed(accepts_sheaf, hall, *bound, papers * 9))
                self.timed(carriers, hall, *bound)
                self.timed(breakers, hall, *bound)
        self.assertGreater(most, 3)

    def test_holders(self):
        for hall, _, node in hard_halls(9):
            for function in (sure_among, possible_among):
                self.timed_fitting(function, hall, ALL, 8)
            for function in (rank_range, rank_worlds):
                self.timed_fitting(function, hall, ALL, node)
            self.timed_fitting(shortfall, hall, ALL, node, 4 * FAR)
            self.timed_fitting(sum_range, hall, ALL)
            self.timed_fitting(sum_worlds, hall, ALL)

    def test_shares(self):
        random = seeded(10)
        for doubt in [*hard_doubts(random), AtMost(4)]:
            boxes = [random.sample(range(15), 2) for _ in range(8)]
            claims = [lead_claim(*pair, random.randint(-150, -9), random.randint(9, 150)) for pair in boxes]
            hall = Hall(linked_frame(random, 199), claims, doubt=doubt)
            for part, whole in [(1, 1), (0, 1), (1, 100), (100, 1), (1, 16)]:
                self.timed_fitting(share_verdict, hall, ALL, 3, part, whole)

    def test_seats(self):
        random = seeded(11)
        counts = [random.randint(1, 10 ** 12 - 1) for _ in range(12)]
        for step in (1, 9):
            self.assertEqual(len(self.timed(seat_order, counts, 60, step=step)), 60)
            self.assertEqual(sum(self.timed(divide, counts, 60, step=step)), 60)

    def test_seat_ranges(self):
        random = seeded(12)
        holders = [3, 1, 4, 15, 9, 2]
        for doubt in [*hard_doubts(random), AtMost(3)]:
            claims = [Claim(*random.sample(holders, 2), random.randint(-30, -5), 30) for _ in range(6)]
            hall = Hall(linked_frame(random, 39), claims, doubt=doubt)
            for step in (1, 9):
                self.timed_fitting(sure_seats, hall, holders, 12, step=step)
                self.timed_fitting(seat_range, hall, holders, 4, 12, step=step)
                self.timed_fitting(seat_worlds, hall, holders, 2, 12, step=step)


if __name__ == "__main__":
    unittest.main()
