"""Points 55 and 56: least prices for leads, ranks and seats."""

import unittest

from counthall.budgetranks import few_seats_price, lead_price, many_seats_price, rank_price
from counthall.budgets import curve, price
from counthall.doubts import Within
from counthall.grounds import against
from counthall.halls import Hall
from counthall.readings import count_claim, stand_frame
from counthall.seats import divide
from tests.plain import all_counts, check_call, random_curves, seeded

TWO = [[0, 4, 6, 9], [5, 3, 0, 1]]


class PriceTest(unittest.TestCase):
    def check_price(self, function, holds, curves, *arguments, **named):
        """Compare an answer with a plain search through all counts for which a property holds."""
        answer = check_call(self, function, curves, *arguments, **named)
        prices = [price(curves, counts) for counts in all_counts(curves) if holds(counts)]
        if not prices:
            self.assertIsNone(answer)
            return None
        self.assertIsInstance(answer, tuple)
        least, counts = answer
        self.assertEqual(least, min(prices))
        self.assertEqual(price(curves, counts), least)
        self.assertIn(counts, all_counts(curves))
        self.assertTrue(holds(counts))
        return least

    def check_lead(self, curves, first, second, lead):
        return self.check_price(
            lead_price, lambda counts: counts[first] >= counts[second] + lead, curves, first, second, lead,
        )

    def check_rank(self, curves, box, rank):
        return self.check_price(
            rank_price, lambda counts: sum(count > counts[box] for count in counts) >= rank - 1, curves, box, rank,
        )

    def check_few(self, curves, box, seats, most, step=1):
        return self.check_price(
            few_seats_price, lambda counts: divide(counts, seats, step=step)[box] <= most,
            curves, box, seats, most, step=step,
        )

    def check_many(self, curves, box, seats, least, step=1):
        return self.check_price(
            many_seats_price, lambda counts: divide(counts, seats, step=step)[box] >= least,
            curves, box, seats, least, step=step,
        )


class LeadTest(PriceTest):
    def test_answers(self):
        for lead, least in [(-3, 0), (-2, 0), (-1, 3), (0, 5), (1, 9), (2, 11), (3, 14)]:
            self.assertEqual(self.check_lead(TWO, 0, 1, lead), least)
        self.assertEqual(self.check_lead(TWO, 1, 0, 3), 1)
        self.assertEqual(self.check_lead(TWO, 1, 0, 2), 0)

    def test_leads_that_no_counts_have(self):
        self.assertIsNone(self.check_lead(TWO, 0, 1, 4))
        self.assertIsNone(lead_price(TWO, 0, 1, 10 ** 11))
        self.assertEqual(lead_price(TWO, 0, 1, -10 ** 11), (0, [0, 2]))
        self.assertIsNone(self.check_lead([[1], [2]], 0, 1, 1))
        self.assertEqual(self.check_lead([[1], [2]], 0, 1, 0), 3)

    def test_against_a_plain_search(self):
        random = seeded(66)
        for _ in range(200):
            curves = random_curves(random, random.randint(2, 4), 5)
            first, second = random.sample(range(len(curves)), 2)
            self.check_lead(curves, first, second, random.randint(-5, 5))


class RankTest(PriceTest):
    def test_answers(self):
        self.assertEqual(self.check_rank(TWO, 0, 1), 0)
        self.assertEqual(self.check_rank(TWO, 0, 2), 0)
        self.assertEqual(self.check_rank(TWO, 1, 2), 9)
        three = [[0, 9], [0, 9], [7, 0]]
        self.assertEqual(self.check_rank(three, 2, 2), 16)
        self.assertEqual(self.check_rank(three, 2, 3), 25)

    def test_ranks_beyond_the_number_of_boxes(self):
        self.assertIsNone(self.check_rank(TWO, 0, 3))
        self.assertIsNone(rank_price(TWO, 0, 99))
        self.assertIsNone(self.check_rank([[3, 1]], 0, 2))
        self.assertEqual(self.check_rank([[3, 1]], 0, 1), 1)

    def test_boxes_that_cannot_hold_more(self):
        self.assertIsNone(self.check_rank([[1], [2]], 0, 2))
        self.assertEqual(self.check_rank([[0, 0, 0, 8], [2, 5]], 0, 2), 5)
        self.assertIsNone(self.check_rank([[0, 1], [2, 5], [3]], 0, 3))

    def test_against_a_plain_search(self):
        random = seeded(67)
        for _ in range(250):
            curves = random_curves(random, random.randint(1, 4), 4)
            self.check_rank(curves, random.randrange(len(curves)), random.randint(1, len(curves) + 1))


class SeatsTest(PriceTest):
    def test_most_and_least_0(self):
        self.assertEqual(self.check_few(TWO, 0, 3, 0), 0)
        self.assertEqual(self.check_few(TWO, 1, 3, 0), 5)
        self.assertEqual(self.check_many(TWO, 0, 3, 0), 0)
        self.assertEqual(self.check_few([[5, 0, 1]], 0, 2, 0), 5)
        self.assertEqual(self.check_few([[5, 0, 1]], 0, 0, 0), 0)

    def test_more_seats_than_there_are(self):
        self.assertIsNone(self.check_many(TWO, 0, 3, 4))
        self.assertIsNone(self.check_many(TWO, 0, 0, 1))
        self.assertEqual(self.check_many(TWO, 0, 0, 0), 0)
        self.assertEqual(self.check_few(TWO, 0, 3, 3), 0)
        self.assertEqual(self.check_few(TWO, 0, 3, 99), 0)
        self.assertIsNone(self.check_many(TWO, 0, 12, 13))

    def test_no_counts_above_zero(self):
        self.assertEqual(self.check_few([[3], [4]], 0, 5, 0), 7)
        self.assertIsNone(self.check_many([[3], [4]], 0, 5, 1))
        self.assertEqual(self.check_many([[3, 9], [4]], 0, 5, 5), 13)
        self.assertEqual(self.check_few([[3, 0], [4]], 0, 5, 4), 7)

    def test_equal_quotients(self):
        equal = [[9, 9, 0], [9, 9, 0]]
        self.assertEqual(self.check_many(equal, 0, 1, 1), 0)
        self.assertEqual(self.check_many(equal, 1, 1, 1), 9)
        self.assertEqual(self.check_few(equal, 1, 1, 0), 0)
        self.assertEqual(self.check_few(equal, 0, 1, 0), 9)
        self.assertEqual(self.check_few([[9, 9, 9, 9, 0], [9, 9, 0]], 0, 3, 1, step=1), 9)

    def test_the_step_is_1_if_it_is_left_out(self):
        random = seeded(80)
        for _ in range(30):
            curves = random_curves(random, 3, 8)
            for bound in range(4):
                few = few_seats_price(curves, 1, 4, bound)
                self.assertEqual(few, few_seats_price(curves, 1, 4, bound, step=1))
                many = many_seats_price(curves, 1, 4, bound)
                self.assertEqual(many, many_seats_price(curves, 1, 4, bound, step=1))

    def test_steps(self):
        for step in range(1, 10):
            for bound in range(5):
                self.check_few([[4, 2, 0, 1], [0, 5, 1, 3], [2, 2, 0, 0]], 1, 4, bound, step)
                self.check_many([[4, 2, 0, 1], [0, 5, 1, 3], [2, 2, 0, 0]], 1, 4, bound, step)

    def test_against_a_plain_search(self):
        random = seeded(68)
        missing = 0
        for _ in range(250):
            curves = random_curves(random, random.randint(1, 4), 4)
            box = random.randrange(len(curves))
            seats, bound, step = random.randint(0, 6), random.randint(0, 6), random.randint(1, 9)
            self.check_few(curves, box, seats, bound, step)
            missing += self.check_many(curves, box, seats, bound, step) is None
        self.assertGreater(missing, 20)

    def test_results_of_a_stand(self):
        random = seeded(69)
        certain = {True: 0, False: 0}
        for _ in range(150):
            rooms = [random.randint(1, 4) for _ in range(3)]
            told = [
                (random.randrange(3), random.randint(0, 4), random.randint(1, 3)) for _ in range(random.randint(0, 6))
            ]
            claims = [count_claim(box, value, value, weight=weight) for box, value, weight in told]
            curves = [
                curve([(value, value, weight) for other, value, weight in told if other == box], room)
                for box, room in enumerate(rooms)
            ]
            limit = random.randint(min(2, len(told)), 8)
            hall = Hall(stand_frame(rooms), claims, doubt=Within(limit))
            seats, least, step = random.randint(1, 6), random.randint(1, 4), random.randint(1, 3)
            for result, answer in [
                (("seats", [1, 2, 3], 2, seats, step, least), few_seats_price(curves, 1, seats, least - 1, step=step)),
                (("rank", [1, 2, 3], 2, 2), rank_price(curves, 1, 3)),
                (("reaches", [1], 3, -1), lead_price(curves, 2, 0, 2)),
            ]:
                holds = against(hall, result) is None
                self.assertEqual(holds, answer is None or answer[0] > limit)
                certain[holds] += 1
        self.assertGreater(min(certain.values()), 50)


if __name__ == "__main__":
    unittest.main()
