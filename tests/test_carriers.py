"""Point 35: carriers and breakers of a bound."""

import unittest

from counthall.carriers import breakers, carriers
from counthall.claims import Claim
from counthall.doubts import AtMost, Lots, Within
from counthall.frames import Frame
from counthall.halls import Hall
from counthall.lots import hitting_sets
from counthall.readings import row_frame
from tests.plain import (
    check_call, difference, minimal, random_cases, random_claim, rest_of, seeded, subsets, wide_frame, worlds_of,
    worlds_with,
)

ROW = row_frame([9, 9])
FOURS = Hall(ROW, [Claim(0, 1, 4, 4), Claim(0, 1, 4, 4), Claim(0, 1, 7, 7)], doubt=AtMost(1))


class CarriersTest(unittest.TestCase):
    def check_both(self, hall, first, second, high, carrying, breaking):
        self.assertEqual(check_call(self, carriers, hall, first, second, high), carrying)
        self.assertEqual(check_call(self, breakers, hall, first, second, high), breaking)

    def test_examples(self):
        self.check_both(FOURS, 0, 1, 4, [[0], [1]], [[0, 1]])

    def test_a_set_carries_if_it_has_no_world(self):
        self.check_both(FOURS, 0, 1, 3, [[0, 2], [1, 2]], [[0, 1], [2]])
        self.check_both(Hall(ROW, [Claim(0, 1, 4, 4), Claim(2, 2, 1)]), 0, 2, 12, [[1]], [[1]])

    def test_nothing_breaks_a_bound_of_the_rules(self):
        for high in (9, 10, 10 ** 11):
            self.check_both(FOURS, 0, 1, high, [[]], [])
        self.check_both(Hall(ROW, []), 0, 2, 18, [[]], [])
        self.check_both(Hall(ROW, []), 0, 2, 17, [], [[]])

    def test_nothing_carries(self):
        hall = Hall(ROW, [Claim(0, 1, 4, 4), Claim(0, 1, 4)])
        self.check_both(hall, 0, 1, 3, [], [[]])
        self.check_both(hall, 0, 1, 4, [[0]], [[0]])

    def test_one_node(self):
        self.check_both(FOURS, 1, 1, 0, [[]], [])
        self.check_both(FOURS, 1, 1, -1, [[0, 2], [1, 2]], [[0, 1], [2]])

    def test_the_other_direction(self):
        self.check_both(FOURS, 1, 0, -4, [[0], [1], [2]], [[0, 1, 2]])

    def test_several_claims_together(self):
        claims = [Claim(0, 1, None, 3), Claim(1, 2, None, 2), Claim(0, 2, None, 5), Claim(0, 2, 1)]
        self.check_both(Hall(ROW, claims), 0, 2, 5, [[0, 1], [2]], [[0, 2], [1, 2]])
        self.check_both(Hall(ROW, claims), 0, 2, 4, [], [[]])

    def test_the_doubt_has_no_influence(self):
        for doubt in (None, AtMost(3), Within(1), Lots([[0, 1]])):
            hall = Hall(ROW, FOURS.claims, doubt=doubt)
            self.check_both(hall, 0, 1, 4, [[0], [1]], [[0, 1]])

    def test_no_world_fits(self):
        hall = Hall(ROW, [Claim(0, 1, 4, 4), Claim(0, 1, 5, 5), Claim(0, 1, 7, 7)], doubt=AtMost(1))
        self.check_both(hall, 0, 1, 5, [[0], [1]], [[0, 1]])
        self.check_both(hall, 0, 1, 3, [[0, 1], [0, 2], [1, 2]], [[0, 1], [0, 2], [1, 2]])

    def test_against_a_plain_search(self):
        several = 0
        for random, hall, _ in random_cases(36, 250, 6):
            worlds = worlds_of(hall.frame, 6)
            first = random.randrange(hall.frame.size)
            second = random.randrange(hall.frame.size)
            high = random.randint(-4, 5)
            sets = subsets(len(hall.claims))
            carry = [
                chosen for chosen in sets
                if all(difference(levels, first, second) <= high
                       for levels in worlds_with(worlds, [hall.claims[index] for index in chosen]))
            ]
            broken = [
                chosen for chosen in sets
                if any(difference(levels, first, second) > high
                       for levels in worlds_with(worlds, rest_of(hall, chosen)))
            ]
            found = check_call(self, carriers, hall, first, second, high)
            other = check_call(self, breakers, hall, first, second, high)
            self.assertEqual(found, minimal(carry))
            self.assertEqual(other, minimal(broken))
            self.assertEqual(other, hitting_sets(found))
            self.assertEqual(found, hitting_sets(other))
            several += len(found) > 1
        self.assertGreater(several, 20)

    def test_eight_claims(self):
        random = seeded(37)
        for _ in range(20):
            claims = [random_claim(random, 4) for _ in range(8)]
            hall = Hall(wide_frame(random, 4), claims)
            high = random.randint(-3, 4)
            found = carriers(hall, 0, 3, high)
            self.assertEqual(breakers(hall, 0, 3, high), hitting_sets(found))
            self.assertEqual(carriers(hall, 0, 3, high), hitting_sets(breakers(hall, 0, 3, high)))

    def test_one_node_alone(self):
        hall = Hall(Frame(1, []), [Claim(0, 0, 1), Claim(0, 0, None, 3), Claim(0, 0, None, -1)])
        self.check_both(hall, 0, 0, 0, [[]], [])
        self.check_both(hall, 0, 0, -1, [[0], [2]], [[0, 2]])


if __name__ == "__main__":
    unittest.main()
