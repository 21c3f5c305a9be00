"""Points 30 and 44: shares of a sum."""

import unittest

from counthall.claims import Claim
from counthall.doubts import AtMost
from counthall.frames import Frame
from counthall.halls import Hall
from counthall.readings import count_claim, lead_claim, stand_frame
from counthall.shares import share_verdict
from tests.plain import check_call, check_no_world, check_verdict, fitting_worlds, random_cases

STAND = Hall(stand_frame([9, 9]), [count_claim(0, 4, 6), count_claim(1, 4)])


def has_share(levels, holders, node, part, whole):
    return whole * levels[node] >= part * sum(levels[holder] for holder in holders)


class ShareTest(unittest.TestCase):
    def check_share(self, hall, holders, node, part, whole):
        answer = check_call(self, share_verdict, hall, holders, node, part, whole)
        worlds = fitting_worlds(hall, 9)
        check_verdict(self, answer, worlds, lambda levels: has_share(levels, holders, node, part, whole))
        return answer[0]

    def test_words(self):
        for part, whole, word in [
            (1, 2, "open"), (3, 5, "open"), (31, 50, "never"), (4, 13, "certain"), (5, 13, "open"), (0, 1, "certain"),
            (1, 1, "never"), (100, 1, "never"), (100, 100, "never"), (1, 100, "certain"),
        ]:
            self.assertEqual(self.check_share(STAND, [1, 2], 1, part, whole), word, (part, whole))

    def test_one_holder(self):
        self.assertEqual(self.check_share(STAND, [1], 1, 1, 1), "certain")
        self.assertEqual(self.check_share(STAND, [1], 1, 2, 1), "never")
        self.assertEqual(self.check_share(STAND, [0], 0, 2, 1), "certain")

    def test_the_others_depend_on_the_node(self):
        hall = Hall(stand_frame([9, 9]), [lead_claim(0, 1, 2, 2)])
        self.assertEqual(self.check_share(hall, [1, 2], 1, 9, 16), "certain")
        self.assertEqual(self.check_share(hall, [1, 2], 1, 57, 100), "open")
        self.assertEqual(self.check_share(hall, [1, 2], 2, 1, 2), "never")

    def test_part_zero(self):
        hall = Hall(Frame(2, [(0, 1, -4, 4)]), [])
        self.assertEqual(self.check_share(hall, [1], 1, 0, 1), "open")
        self.assertEqual(self.check_share(Hall(hall.frame, [Claim(0, 1, 0)]), [1], 1, 0, 7), "certain")
        self.assertEqual(self.check_share(Hall(hall.frame, [Claim(0, 1, None, -1)]), [1], 1, 0, 7), "never")

    def test_negative_levels(self):
        hall = Hall(Frame(3, [(0, 1, -6, -2), (0, 2, -5, 1)]), [])
        for part, whole in [(1, 2), (1, 1), (2, 1), (100, 1), (1, 100), (3, 4)]:
            self.check_share(hall, [1, 2], 1, part, whole)
            self.check_share(hall, [2, 1], 2, part, whole)
            self.check_share(hall, [0, 1, 2], 0, part, whole)

    def test_no_world(self):
        hall = Hall(stand_frame([9, 9]), [count_claim(0, 4, 6), count_claim(0, 7)])
        check_no_world(self, share_verdict, hall, [1, 2], 1, 0, 1)
        self.assertEqual(share_verdict(Hall(hall.frame, hall.claims, doubt=AtMost(1)), [1, 2], 1, 0, 1)[0], "certain")

    def test_against_a_plain_search(self):
        seen = {"certain": 0, "never": 0, "open": 0}
        for random, hall, worlds in random_cases(47, 400):
            size = hall.frame.size
            holders = random.sample(range(size), random.randint(1, size))
            node = random.choice(holders)
            part, whole = random.choice([(0, 1), (1, 1), (1, 2), (2, 3), (1, 3), (3, 2), (100, 1), (99, 100), (1, 100)])
            if not worlds:
                check_no_world(self, share_verdict, hall, holders, node, part, whole)
                continue
            answer = check_call(self, share_verdict, hall, holders, node, part, whole)
            check_verdict(self, answer, worlds, lambda levels: has_share(levels, holders, node, part, whole))
            seen[answer[0]] += 1
        self.assertGreater(min(seen.values()), 20)


if __name__ == "__main__":
    unittest.main()
