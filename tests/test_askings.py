"""Points 63 and 64: offers of tellers who can be asked."""

import unittest

from counthall.askings import askings_bound, cheapest_askings
from counthall.ties import tied
from tests.plain import check_call, seeded, subsets

OFFERS = [(0, 1, 3), (2, 1, 4), (0, 2, 9), (1, 2, 0), (3, 2, 5), (0, 2, 999)]


def random_offers(random, size, most, prices):
    return [(*random.sample(range(size), 2), random.choice(prices)) for _ in range(random.randint(0, most))]


def contains_ways(size, offers, chosen, first, second, ways):
    """Whether the chosen offers contain so many ways with no offer in common."""
    return tied(size, [(*offers[index][:2], 1) for index in chosen], first, second)[0] >= ways


def plain_bound(offers, first, second, ways, levels):
    bound = ways * (levels[second] - levels[first])
    for one, other, price in offers:
        distance = abs(levels[other] - levels[one])
        if distance > price:
            bound -= distance - price
    return bound


class AskingsCase(unittest.TestCase):
    def check_askings(self, size, offers, first, second, ways):
        answer = check_call(self, cheapest_askings, size, offers, first, second, ways)
        if answer is None:
            self.assertFalse(contains_ways(size, offers, range(len(offers)), first, second, ways))
            return None
        self.assertIsInstance(answer, tuple)
        price, chosen, levels = answer
        self.assertEqual(chosen, sorted(set(chosen)))
        self.assertEqual(sum(offers[index][2] for index in chosen), price)
        self.assertTrue(contains_ways(size, offers, chosen, first, second, ways))
        self.assertEqual(len(levels), size)
        self.assertEqual(check_call(self, askings_bound, offers, first, second, ways, levels), price)
        self.assertEqual(plain_bound(offers, first, second, ways, levels), price)
        return price


class CheapestAskingsTest(AskingsCase):
    def test_answers(self):
        self.assertEqual(self.check_askings(4, OFFERS, 0, 2, 1), 3)
        self.assertEqual(self.check_askings(4, OFFERS, 0, 2, 2), 3 + 9)
        self.assertEqual(self.check_askings(4, OFFERS, 0, 2, 3), 3 + 9 + 999)
        self.assertIsNone(self.check_askings(4, OFFERS, 0, 2, 4))
        self.assertEqual(self.check_askings(4, OFFERS, 0, 3, 1), 8)
        self.assertIsNone(self.check_askings(4, OFFERS, 0, 3, 2))
        self.assertEqual(self.check_askings(4, OFFERS, 1, 0, 2), 3 + 0 + 9)

    def test_no_way(self):
        self.assertIsNone(self.check_askings(2, [], 0, 1, 1))
        self.assertIsNone(self.check_askings(3, [(0, 1, 5)], 0, 2, 1))
        self.assertIsNone(self.check_askings(4, [(0, 1, 0), (2, 3, 0)], 3, 1, 1))

    def test_prices_at_both_ends(self):
        self.assertEqual(self.check_askings(2, [(0, 1, 0)], 0, 1, 1), 0)
        self.assertEqual(self.check_askings(2, [(0, 1, 999)] * 40, 0, 1, 9), 9 * 999)
        self.assertEqual(self.check_askings(2, [(1, 0, 0)] * 40, 0, 1, 9), 0)
        row = [(node, node + 1, 999) for node in range(15)]
        self.assertEqual(self.check_askings(16, row + row, 15, 0, 2), 30 * 999)
        self.assertIsNone(self.check_askings(16, row + row, 15, 0, 3))

    def test_several_offers_for_the_same_nodes(self):
        offers = [(0, 1, 7), (1, 0, 2), (0, 1, 5), (1, 0, 2)]
        for ways, price in [(1, 2), (2, 4), (3, 9), (4, 16), (5, None)]:
            self.assertEqual(self.check_askings(2, offers, 1, 0, ways), price)

    def test_ways_that_give_up_the_cheapest_one(self):
        # The cheapest way goes over the middle offer, two ways together do not.
        offers = [(0, 1, 1), (1, 2, 1), (2, 3, 1), (0, 2, 5), (1, 3, 5)]
        self.assertEqual(self.check_askings(4, offers, 0, 3, 1), 3)
        self.assertEqual(self.check_askings(4, offers, 0, 3, 2), 12)

    def test_against_all_choices(self):
        random = seeded(511)
        found = 0
        for _ in range(150):
            size = random.randint(2, 5)
            offers = random_offers(random, size, 9, random.choice([[0, 1, 2, 3], [0, 999], [5], list(range(9))]))
            first, second = random.sample(range(size), 2)
            for ways in (1, 2, 3):
                prices = [
                    sum(offers[index][2] for index in chosen) for chosen in subsets(len(offers))
                    if contains_ways(size, offers, chosen, first, second, ways)
                ] if len(offers) < 8 else None
                price = self.check_askings(size, offers, first, second, ways)
                found += price is not None
                if prices is not None:
                    self.assertEqual(price, min(prices, default=None))
        self.assertGreater(found, 100)


class BoundTest(AskingsCase):
    def check_bound(self, offers, first, second, ways, levels, bound):
        self.assertEqual(check_call(self, askings_bound, offers, first, second, ways, levels), bound)

    def test_answers(self):
        self.check_bound(OFFERS, 0, 2, 2, [0, 0, 0, 0], 0)
        self.check_bound(OFFERS, 0, 2, 2, [0, 3, 3, 3], 6)
        self.check_bound(OFFERS, 0, 2, 2, [0, 3, 9, 9], 18 - 2 - 6)
        self.check_bound(OFFERS, 2, 0, 1, [0, 3, 9, 9], -9 - 2 - 6)
        self.check_bound([], 1, 0, 9, [5, 2], 27)
        self.check_bound([(0, 1, 0), (1, 0, 0)], 0, 1, 1, [0, -7], -7 - 14)
        self.check_bound([(0, 1, 7), (1, 0, 6)], 0, 1, 1, [0, 7], 7 - 1)

    def test_no_levels_say_more_than_a_choice_costs(self):
        random = seeded(512)
        for _ in range(100):
            size = random.randint(2, 5)
            offers = random_offers(random, size, 9, list(range(8)))
            first, second = random.sample(range(size), 2)
            ways = random.randint(1, 3)
            answer = cheapest_askings(size, offers, first, second, ways)
            for _ in range(20):
                levels = [random.randint(-9, 9) for _ in range(size)]
                bound = plain_bound(offers, first, second, ways, levels)
                self.check_bound(offers, first, second, ways, levels, bound)
                if answer is not None:
                    self.assertLessEqual(bound, answer[0])


if __name__ == "__main__":
    unittest.main()
