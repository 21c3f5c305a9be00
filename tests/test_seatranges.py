"""Points 30 and 46: seats in the fitting worlds."""

import unittest
from itertools import product

from counthall.claims import Claim
from counthall.doubts import AtMost, Lots
from counthall.frames import Frame
from counthall.halls import Hall
from counthall.readings import count_claim, lead_claim, stand_frame
from counthall.seatranges import seat_range, seat_worlds, sure_seats
from counthall.seats import divide
from tests.plain import check_call, check_no_world, random_cases

STAND = Hall(stand_frame([9, 9, 9]), [count_claim(0, 5, 6), count_claim(1, 3, 5), count_claim(2, 0, 2)])


class SeatRangesTest(unittest.TestCase):
    def test_answers(self):
        self.assertEqual(check_call(self, sure_seats, STAND, [1, 2, 3], 7), [(3, 5), (2, 3), (0, 1)])
        self.assertEqual(check_call(self, sure_seats, STAND, [3, 1, 2], 7), [(0, 1), (3, 5), (2, 3)])
        self.assertEqual(check_call(self, seat_range, STAND, [1, 2, 3], 1, 7), (3, 5))
        fewest, most = check_call(self, seat_worlds, STAND, [1, 2, 3], 1, 7)
        self.assertEqual(divide(fewest[1:], 7)[0], 3)
        self.assertEqual(divide(most[1:], 7)[0], 5)

    def test_exact_counts(self):
        exact = Hall(stand_frame([9, 9, 9]), [count_claim(0, 8, 8), count_claim(1, 5, 5), count_claim(2, 3, 3)])
        for step in (1, 2, 9):
            shares = divide([8, 5, 3], 6, step=step)
            self.assertEqual(check_call(self, sure_seats, exact, [1, 2, 3], 6, step=step), [(x, x) for x in shares])

    def test_the_step_is_1_if_it_is_left_out(self):
        wide = Hall(stand_frame([99, 99]), [count_claim(0, 6, 21), count_claim(1, 10, 10)])
        for named in ({}, {"step": 1}, {"step": 2}, {"step": 9}):
            counts = [divide([count, 10], 4, **named)[0] for count in range(6, 22)]
            self.assertEqual(seat_range(wide, [1, 2], 1, 4, **named), (min(counts), max(counts)))
            fewest, most = seat_worlds(wide, [1, 2], 1, 4, **named)
            self.assertEqual(divide(fewest[1:], 4, **named)[0], min(counts))
            self.assertEqual(divide(most[1:], 4, **named)[0], max(counts))
            self.assertEqual(sure_seats(wide, [1, 2], 4, **named)[0], (min(counts), max(counts)))

    def test_the_order_of_the_holders_decides_between_equal_quotients(self):
        equal = Hall(stand_frame([9, 9]), [count_claim(0, 5, 5), count_claim(1, 5, 5)])
        self.assertEqual(check_call(self, sure_seats, equal, [1, 2], 1), [(1, 1), (0, 0)])
        self.assertEqual(check_call(self, sure_seats, equal, [2, 1], 1), [(1, 1), (0, 0)])
        self.assertEqual(seat_range(equal, [2, 1], 1, 1), (0, 0))

    def test_no_seats_and_no_counts(self):
        self.assertEqual(check_call(self, sure_seats, STAND, [1, 2, 3], 0), [(0, 0)] * 3)
        empty = Hall(stand_frame([0, 0]), [])
        self.assertEqual(check_call(self, sure_seats, empty, [1, 2], 5), [(0, 0), (0, 0)])
        self.assertEqual(seat_range(Hall(Frame(1, []), []), [0], 0, 3), (0, 0))
        below = Hall(Frame(3, [(0, 1, -5, -1), (0, 2, -3, 2)]), [])
        self.assertEqual(check_call(self, sure_seats, below, [1, 2], 4), [(0, 0), (0, 4)])

    def test_a_level_with_one_value_and_with_many(self):
        hall = Hall(stand_frame([39, 7]), [count_claim(1, 7, 7)])
        self.assertEqual(check_call(self, sure_seats, hall, [1, 2], 12), [(0, 11), (1, 12)])
        counts = [divide([x, 7], 12)[0] for x in range(40)]
        self.assertEqual(seat_range(hall, [1, 2], 1, 12), (min(counts), max(counts)))

    def test_counts_that_depend_on_each_other(self):
        hall = Hall(stand_frame([9, 9]), [lead_claim(0, 1, 3, 3)])
        expected = [divide([x + 3, x], 5)[0] for x in range(7)]
        self.assertEqual(check_call(self, seat_range, hall, [1, 2], 1, 5), (min(expected), max(expected)))

    def test_a_lot(self):
        hall = Hall(STAND.frame, STAND.claims, doubt=Lots([[0]]))
        self.assertEqual(check_call(self, seat_range, hall, [1, 2, 3], 1, 7), (0, 6))

    def test_no_world(self):
        hall = Hall(stand_frame([9, 9]), [count_claim(0, 5, 6), count_claim(0, 7)])
        check_no_world(self, seat_range, hall, [1, 2], 1, 0)
        check_no_world(self, seat_worlds, hall, [1, 2], 1, 3)
        check_no_world(self, sure_seats, hall, [1, 2], 3, step=2)

    def test_against_a_plain_search(self):
        several = 0
        for random, hall, worlds in random_cases(50, 200, 5, (2, 2, 3, 3, 4)):
            size = hall.frame.size
            holders = random.sample(range(size), random.randint(1, size))
            seats, step = random.randint(0, 7), random.randint(1, 9)
            if not worlds:
                check_no_world(self, sure_seats, hall, holders, seats, step=step)
                continue
            cases = [divide([levels[holder] for holder in holders], seats, step=step) for levels in worlds]
            ranges = [(min(items), max(items)) for items in zip(*cases)]
            self.assertEqual(check_call(self, sure_seats, hall, holders, seats, step=step), ranges)
            for place, node in enumerate(holders):
                known = check_call(self, seat_range, hall, holders, node, seats, step=step)
                self.assertEqual(known, ranges[place])
                found = check_call(self, seat_worlds, hall, holders, node, seats, step=step)
                for levels, number in zip(found, known):
                    self.assertIn(levels, worlds)
                    self.assertEqual(divide([levels[holder] for holder in holders], seats, step=step)[place], number)
                several += known[0] < known[1]
        self.assertGreater(several, 50)

    def test_a_doubt_about_any_claim(self):
        hall = Hall(STAND.frame, [*STAND.claims, Claim(1, 2, None, -4)], doubt=AtMost(1))
        worlds = [[0, *counts] for counts in product(range(10), repeat=3) if hall.fits([0, *counts])]
        for seats in (1, 3, 6):
            cases = [divide(levels[1:], seats) for levels in worlds]
            ranges = [(min(items), max(items)) for items in zip(*cases)]
            self.assertEqual(check_call(self, sure_seats, hall, [1, 2, 3], seats), ranges)


if __name__ == "__main__":
    unittest.main()
