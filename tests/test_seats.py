"""Point 45: seats that are given one after the other."""

import unittest
from fractions import Fraction

from counthall.seats import divide, seat_order
from tests.plain import check_call, seeded


def plain_order(counts, seats, step):
    """The holders in the order of their seats: all quotients in order, greatest first, least number first."""
    quotients = [
        (-Fraction(count, 1 + step * had), holder)
        for holder, count in enumerate(counts) if count > 0 for had in range(seats)
    ]
    return [holder for _, holder in sorted(quotients)[:seats]]


class SeatsTest(unittest.TestCase):
    def test_example(self):
        self.assertEqual(check_call(self, seat_order, [10, 6, 3], 4), [0, 1, 0, 0])
        self.assertEqual(check_call(self, divide, [10, 6, 3], 4, step=2), [2, 1, 1])

    def test_no_seats_and_no_counts(self):
        self.assertEqual(check_call(self, seat_order, [10, 6], 0), [])
        self.assertEqual(check_call(self, divide, [10, 6], 0), [0, 0])
        self.assertEqual(check_call(self, seat_order, [], 5), [])
        self.assertEqual(check_call(self, divide, [], 5), [])

    def test_counts_that_are_not_above_zero(self):
        self.assertEqual(check_call(self, seat_order, [0, -3, 0], 7), [])
        self.assertEqual(check_call(self, divide, [0, -3, 0], 7), [0, 0, 0])
        self.assertEqual(check_call(self, divide, [0, 1, -99], 60), [0, 60, 0])
        self.assertEqual(check_call(self, seat_order, [-10, 0, 1, 2], 4), [3, 2, 3, 3])
        self.assertEqual(divide([-5, 3], 2), [0, 2])

    def test_equal_quotients(self):
        self.assertEqual(check_call(self, seat_order, [5, 5, 5], 5), [0, 1, 2, 0, 1])
        self.assertEqual(check_call(self, seat_order, [2, 4], 3), [1, 0, 1])
        self.assertEqual(check_call(self, seat_order, [4, 2], 3), [0, 0, 1])
        self.assertEqual(seat_order([3, 1], 2, step=2), [0, 0])
        self.assertEqual(seat_order([1, 3], 2, step=2), [1, 0])

    def test_steps(self):
        self.assertEqual(divide([53, 24, 23], 7), [4, 2, 1])
        self.assertEqual(divide([53, 24, 23], 7, step=2), [3, 2, 2])
        self.assertEqual(divide([53, 24, 23], 7, step=9), [3, 2, 2])
        for step in range(1, 10):
            self.assertEqual(divide([100, 1], 3, step=step), [3, 0])

    def test_quotients_are_exact(self):
        great = 10 ** 11
        self.assertEqual(seat_order([3 * great, great + 1], 3, step=2), [0, 1, 0])
        self.assertEqual(seat_order([3 * great, great], 3, step=2), [0, 0, 1])
        self.assertEqual(seat_order([3 * great + 1, great], 3, step=2), [0, 0, 1])
        self.assertEqual(seat_order([great, 3 * great + 1], 3, step=2), [1, 1, 0])
        self.assertEqual(seat_order([great, 3 * great], 3, step=2), [1, 0, 1])

    def test_against_all_quotients(self):
        random = seeded(48)
        for _ in range(400):
            top = random.choice([3, 12, 10 ** 11])
            counts = [random.randint(-1, top) for _ in range(random.randint(0, 12))]
            seats = random.choice([0, 1, 5, 12, 30])
            step = random.randint(1, 9)
            order = check_call(self, seat_order, counts, seats, step=step)
            self.assertEqual(order, plain_order(counts, seats, step))
            shares = check_call(self, divide, counts, seats, step=step)
            self.assertEqual(shares, [order.count(holder) for holder in range(len(counts))])

    def test_a_growing_count(self):
        random = seeded(49)
        for _ in range(300):
            counts = [random.randint(-1, 20) for _ in range(random.randint(1, 6))]
            seats, step = random.randint(0, 20), random.randint(1, 9)
            holder = random.randrange(len(counts))
            grown = list(counts)
            grown[holder] += random.randint(1, 6)
            before, after = divide(counts, seats, step=step), divide(grown, seats, step=step)
            self.assertGreaterEqual(after[holder], before[holder])
            if any(count > 0 for count in counts):
                self.assertEqual(sum(after), sum(before))
                self.assertTrue(all(after[x] <= before[x] for x in range(len(counts)) if x != holder))


if __name__ == "__main__":
    unittest.main()
