"""Point 85: recounts that settle a bound."""

import unittest

from counthall.claims import Claim
from counthall.doubts import AtMost
from counthall.halls import Hall
from counthall.readings import count_claim, row_frame, stand_frame
from counthall.settling import cheapest_settling, settles
from counthall.spans import possible_values
from tests.plain import check_call, check_no_world, difference, random_cases

PAIR = Hall(stand_frame([9, 9]), [count_claim(0, 3, 6), count_claim(1, 4, 5)])
NOTHING = Hall(row_frame([9, 9]), [Claim(0, 1, 4, 4), Claim(0, 1, 5, 5)])


def plain_undecided(worlds, first, second, high, start, goal):
    """The numbers that the recount can show without deciding, by a search through the fitting worlds."""
    shown = {}
    for levels in worlds:
        holds = difference(levels, first, second) <= high
        shown.setdefault(difference(levels, start, goal), set()).add(holds)
    return sorted(value for value, answers in shown.items() if len(answers) == 2)


class SettlesTest(unittest.TestCase):
    def check_settles(self, hall, first, second, high, start, goal, worlds=None):
        answer = check_call(self, settles, hall, first, second, high, start, goal)
        if worlds is not None:
            undecided = plain_undecided(worlds, first, second, high, start, goal)
            self.assertEqual(None if answer is None else answer[0], min(undecided, default=None))
        if answer is None:
            return None
        self.assertIsInstance(answer, tuple)
        shown, levels, other = answer
        for world in (levels, other):
            self.assertTrue(hall.fits(world))
            self.assertEqual(difference(world, start, goal), shown)
        self.assertLessEqual(difference(levels, first, second), high)
        self.assertGreater(difference(other, first, second), high)
        return shown

    def test_the_example(self):
        self.assertEqual(settles(PAIR, 1, 2, 0, 0, 1)[0], 4)

    def test_answers(self):
        # Box 0 holds 3 to 6 and box 1 holds 4 or 5.
        for high, shown in [(-3, None), (-2, 6), (-1, 5), (0, 4), (1, 3), (2, None)]:
            self.assertEqual(self.check_settles(PAIR, 1, 2, high, 0, 1), shown)
        for high, shown in [(-3, None), (-2, 4), (-1, 4), (0, 4), (1, 5), (2, None)]:
            self.assertEqual(self.check_settles(PAIR, 1, 2, high, 0, 2), shown)
        self.assertIsNone(self.check_settles(PAIR, 1, 2, 0, 1, 2))
        self.assertIsNone(self.check_settles(PAIR, 1, 2, 0, 2, 1))
        self.assertIsNone(self.check_settles(PAIR, 0, 1, 4, 1, 0))
        self.assertEqual(self.check_settles(PAIR, 0, 1, 4, 2, 0), -5)
        self.assertEqual(self.check_settles(PAIR, 0, 1, 4, 1, 2), 0)
        self.assertIsNone(self.check_settles(PAIR, 0, 1, 3, 0, 1))

    def test_a_bound_that_is_certain_or_never(self):
        for start, goal in [(0, 1), (1, 0), (2, 1)]:
            self.assertIsNone(self.check_settles(PAIR, 0, 1, 6, start, goal))
            self.assertIsNone(self.check_settles(PAIR, 0, 1, 2, start, goal))
            self.assertIsNone(self.check_settles(PAIR, 1, 1, 0, start, goal))
            self.assertIsNone(self.check_settles(PAIR, 1, 1, -1, start, goal))

    def test_several_lots(self):
        claims = [Claim(0, 1, 2, 2), Claim(0, 1, 7, 7), Claim(0, 2, 9, 9)]
        hall = Hall(row_frame([9, 9]), claims, doubt=AtMost(1))
        # The lots leave 2 and 7 in box 0 with 9 in all, or clash.
        self.assertIsNone(self.check_settles(hall, 0, 1, 5, 0, 1))
        self.assertIsNone(self.check_settles(hall, 0, 1, 5, 1, 2))
        self.assertEqual(self.check_settles(hall, 0, 1, 5, 0, 2), 9)
        self.assertIsNone(self.check_settles(hall, 0, 1, 1, 0, 2))

    def test_no_world(self):
        check_no_world(self, settles, NOTHING, 0, 1, 4, 0, 1)
        check_no_world(self, settles, NOTHING, 0, 0, 4, 0, 1)
        check_no_world(self, cheapest_settling, NOTHING, 0, 1, 4, [(0, 1, 3)])
        check_no_world(self, cheapest_settling, NOTHING, 0, 1, 4, [])

    def test_far_numbers(self):
        far = 10 ** 9
        hall = Hall(row_frame([far, far]), [Claim(0, 2, far, far)])
        self.assertEqual(self.check_settles(hall, 0, 1, 5, 0, 2), far)
        self.assertIsNone(self.check_settles(hall, 0, 1, 5, 1, 2))
        self.assertIsNone(self.check_settles(hall, 0, 1, 10 ** 11, 0, 2))
        self.assertIsNone(self.check_settles(hall, 0, 1, -10 ** 11, 0, 2))

    def test_against_all_worlds(self):
        found = {True: 0, False: 0}
        for random, hall, worlds in random_cases(631, 250, sizes=(2, 3, 3, 4)):
            nodes = range(hall.frame.size)
            first, second = random.choices(nodes, k=2)
            start, goal = random.sample(nodes, 2)
            if not worlds:
                check_no_world(self, settles, hall, first, second, 0, start, goal)
                continue
            for high in range(-5, 6):
                shown = self.check_settles(hall, first, second, high, start, goal, worlds)
                found[shown is None] += 1
                if shown is not None:
                    self.assertIn(shown, possible_values(hall, start, goal))
        self.assertGreater(min(found.values()), 200)


class CheapestTest(unittest.TestCase):
    def check_cheapest(self, hall, first, second, high, offers, answer):
        self.assertEqual(check_call(self, cheapest_settling, hall, first, second, high, offers), answer)

    def test_answers(self):
        offers = [(0, 1, 1), (0, 2, 2), (2, 1, 9), (1, 2, 7)]
        self.check_cheapest(PAIR, 1, 2, 0, offers, (7, 3))
        self.check_cheapest(PAIR, 1, 2, 0, offers[:3], (9, 2))
        self.check_cheapest(PAIR, 1, 2, 0, offers[:2], None)
        self.check_cheapest(PAIR, 1, 2, 9, offers, (1, 0))
        self.check_cheapest(PAIR, 0, 1, 4, offers, (1, 0))
        self.check_cheapest(PAIR, 0, 2, 4, offers, (2, 1))

    def test_equal_prices(self):
        self.check_cheapest(PAIR, 1, 2, 0, [(0, 1, 0), (1, 2, 5), (2, 1, 5), (1, 2, 5)], (5, 1))
        self.check_cheapest(PAIR, 1, 2, 0, [(1, 2, 0), (2, 1, 0)], (0, 0))
        self.check_cheapest(PAIR, 1, 2, 0, [(1, 2, 10 ** 11), (2, 1, 10 ** 11 - 1)], (10 ** 11 - 1, 1))

    def test_no_offers(self):
        self.check_cheapest(PAIR, 1, 2, 0, [], None)
        self.check_cheapest(PAIR, 1, 1, 0, [], None)

    def test_random_offers(self):
        answers = []
        for random, hall, worlds in random_cases(632, 150, sizes=(2, 3, 3, 4)):
            if worlds:
                nodes = range(hall.frame.size)
                first, second = random.choices(nodes, k=2)
                high = random.randint(-3, 3)
                offers = [(*random.sample(nodes, 2), random.randint(0, 4)) for _ in range(random.randint(0, 5))]
                plain = [
                    (price, index) for index, (start, goal, price) in enumerate(offers)
                    if not plain_undecided(worlds, first, second, high, start, goal)
                ]
                answers.append(min(plain, default=None))
                self.check_cheapest(hall, first, second, high, offers, answers[-1])
        self.assertGreater(answers.count(None), 15)
        self.assertGreater(len(answers) - answers.count(None), 40)


if __name__ == "__main__":
    unittest.main()
