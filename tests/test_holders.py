"""Points 30 and 40 to 43: ranks and sums."""

import unittest

from counthall.claims import Claim
from counthall.doubts import AtMost, Lots
from counthall.errors import NoWorld
from counthall.fitting import fitting_lots
from counthall.frames import Frame
from counthall.halls import Hall
from counthall.holders import (
    possible_among, rank_in, rank_range, rank_worlds, shortfall, sum_range, sum_worlds, sure_among,
)
from counthall.readings import count_claim, lead_claim, row_frame, stand_frame
from counthall.tables import closed_table, column_world, row_world
from tests.plain import check_call, check_no_world, random_cases, rest_of

STAND = Hall(stand_frame([9, 9, 9]), [count_claim(0, 5, 6), count_claim(1, 3, 5), count_claim(2, 0, 2)])
DOUBTED = Hall(STAND.frame, STAND.claims, doubt=Lots([[1]]))
NOTHING = Hall(stand_frame([9, 9]), [count_claim(0, 5, 6), count_claim(0, 3, 4)])


class RankTest(unittest.TestCase):
    def test_rank_in(self):
        levels = [0, 4, 7, 4, 1, 7]
        for holders, node, rank in [
            ([1, 2, 3, 4, 5], 2, 1), ([1, 2, 3, 4, 5], 5, 1), ([1, 2, 3, 4, 5], 1, 3), ([1, 2, 3, 4, 5], 3, 3),
            ([1, 2, 3, 4, 5], 4, 5), ([4], 4, 1), ([3, 1], 1, 1), ([0, 4], 0, 2), ([5, 0, 2, 4], 4, 3),
        ]:
            self.assertEqual(check_call(self, rank_in, levels, holders, node), rank)
        self.assertEqual(rank_in([0, -3, -5], [2, 0, 1], 1), 2)

    def test_example(self):
        self.assertEqual(check_call(self, rank_range, STAND, [1, 2, 3], 2), (1, 2))
        best, worst = check_call(self, rank_worlds, STAND, [1, 2, 3], 2)
        self.assertEqual(rank_in(best, [1, 2, 3], 2), 1)
        self.assertEqual(rank_in(worst, [1, 2, 3], 2), 2)

    def test_equal_levels(self):
        # In the world with 5 things in both boxes they have the rank 1 together.
        self.assertEqual(rank_range(STAND, [1, 2], 2), (1, 2))
        self.assertEqual(rank_range(STAND, [1, 2], 1), (1, 1))
        equal = Hall(stand_frame([9, 9]), [lead_claim(0, 1, 0, 0)])
        self.assertEqual(rank_range(equal, [1, 2], 2), (1, 1))
        self.assertEqual(check_call(self, sure_among, equal, [2, 1], 1), [1, 2])

    def test_a_lot_changes_the_ranks(self):
        self.assertEqual(rank_range(DOUBTED, [3, 2, 1], 2), (1, 3))
        self.assertEqual(check_call(self, sure_among, DOUBTED, [3, 2, 1], 2), [1])
        self.assertEqual(check_call(self, sure_among, DOUBTED, [3, 2, 1], 3), [1, 2, 3])
        self.assertEqual(check_call(self, possible_among, DOUBTED, [3, 2, 1], 1), [1, 2])
        self.assertEqual(check_call(self, possible_among, DOUBTED, [3, 2, 1], 2), [1, 2, 3])

    def test_places_at_the_edges(self):
        for places, sure, possible in [(-1, [], []), (0, [], []), (1, [1], [1, 2]), (2, [1, 2], [1, 2]),
                                       (3, [1, 2, 3], [1, 2, 3]), (99, [1, 2, 3], [1, 2, 3])]:
            self.assertEqual(check_call(self, sure_among, STAND, [2, 3, 1], places), sure)
            self.assertEqual(check_call(self, possible_among, STAND, [2, 3, 1], places), possible)

    def test_one_holder(self):
        self.assertEqual(check_call(self, rank_range, STAND, [2], 2), (1, 1))
        self.assertEqual(check_call(self, rank_range, Hall(Frame(1, []), []), [0], 0), (1, 1))

    def test_no_world(self):
        check_no_world(self, rank_range, NOTHING, [1, 2], 1)
        check_no_world(self, rank_worlds, NOTHING, [1, 2], 1)
        check_no_world(self, sure_among, NOTHING, [1, 2], 1)
        check_no_world(self, possible_among, NOTHING, [1, 2], 0)
        self.assertEqual(rank_in([0, 5, 3], [1, 2], 2), 2)

    def test_against_a_plain_search(self):
        without = 0
        for random, hall, worlds in random_cases(44, 200):
            size = hall.frame.size
            holders = random.sample(range(size), random.randint(1, size))
            places = random.randint(0, size)
            if not worlds:
                without += 1
                check_no_world(self, sure_among, hall, holders, places)
                continue
            tables = [closed_table(hall.frame, rest_of(hall, lot)) for lot in fitting_lots(hall)]
            bests, worsts = {}, {}
            for node in holders:
                ranks = [1 + sum(levels[other] > levels[node] for other in holders) for levels in worlds]
                bests[node], worsts[node] = min(ranks), max(ranks)
                self.assertEqual(check_call(self, rank_range, hall, holders, node), (min(ranks), max(ranks)))
                best, worst = check_call(self, rank_worlds, hall, holders, node)
                self.assertIn(best, worlds)
                self.assertIn(worst, worlds)
                self.assertEqual(rank_in(best, holders, node), min(ranks))
                self.assertEqual(rank_in(worst, holders, node), max(ranks))
                self.assertEqual(min(rank_in(column_world(table, node), holders, node) for table in tables), min(ranks))
                self.assertEqual(max(rank_in(row_world(table, node), holders, node) for table in tables), max(ranks))
            sure = sorted(node for node in holders if worsts[node] <= places)
            self.assertEqual(check_call(self, sure_among, hall, holders, places), sure)
            possible = sorted(node for node in holders if bests[node] <= places)
            self.assertEqual(check_call(self, possible_among, hall, holders, places), possible)
        self.assertGreater(without, 15)


class ShortfallTest(unittest.TestCase):
    def test_answers(self):
        self.assertIsNone(check_call(self, shortfall, STAND, [1], 2))
        levels = check_call(self, shortfall, STAND, [2], 1)
        self.assertTrue(STAND.fits(levels))
        self.assertLess(levels[2], levels[1])
        self.assertIsNone(check_call(self, shortfall, STAND, [3, 2], 3, 1))
        self.assertIsNotNone(check_call(self, shortfall, STAND, [3, 2], 3, 2))

    def test_an_empty_group(self):
        for lead in (-10 ** 11, 0, 3):
            levels = check_call(self, shortfall, STAND, [], 1, lead)
            self.assertTrue(STAND.fits(levels))
        check_no_world(self, shortfall, NOTHING, [], 1)

    def test_a_group_that_contains_the_node(self):
        self.assertIsNone(check_call(self, shortfall, STAND, [3, 2], 2))
        self.assertIsNone(check_call(self, shortfall, STAND, [2], 2, 0))
        self.assertIsNone(shortfall(STAND, [2], 2, -1))
        self.assertIsNotNone(check_call(self, shortfall, STAND, [2], 2, 1))

    def test_a_lead_below_zero(self):
        self.assertIsNone(check_call(self, shortfall, STAND, [2], 1, -3))
        levels = check_call(self, shortfall, STAND, [2], 1, -2)
        self.assertTrue(STAND.fits(levels))
        self.assertLess(levels[2], levels[1] - 2)
        self.assertEqual(shortfall(STAND, [2], 1, lead=-3), None)

    def test_the_lead_is_0_if_it_is_left_out(self):
        one_less = Hall(stand_frame([9, 9]), [lead_claim(0, 1, -1, -1)])
        self.assertIsNotNone(check_call(self, shortfall, one_less, [1], 2))
        self.assertIsNone(shortfall(one_less, [1], 2, -1))
        self.assertIsNone(check_call(self, shortfall, Hall(one_less.frame, [lead_claim(0, 1, 0, 0)]), [1], 2))

    def test_one_of_the_group_is_enough(self):
        claims = [lead_claim(0, 2, 0), lead_claim(1, 2, 0)]
        hall = Hall(stand_frame([9, 9, 9]), claims, doubt=AtMost(1))
        self.assertIsNone(check_call(self, shortfall, hall, [1, 2], 3))
        self.assertIsNotNone(shortfall(hall, [1], 3))
        self.assertIsNotNone(shortfall(hall, [2], 3))

    def test_no_world(self):
        check_no_world(self, shortfall, NOTHING, [1], 1)
        check_no_world(self, shortfall, NOTHING, [1, 2], 0, -99)

    def test_against_a_plain_search(self):
        answers = {True: 0, False: 0}
        for random, hall, worlds in random_cases(45, 250):
            size = hall.frame.size
            group = random.sample(range(size), random.randint(0, size))
            node = random.randrange(size)
            for lead in (0, random.randint(-4, 4)):
                if not worlds:
                    check_no_world(self, shortfall, hall, group, node, lead)
                    continue
                short = [w for w in worlds if all(w[other] < w[node] + lead for other in group)]
                levels = check_call(self, shortfall, hall, group, node, lead)
                answers[levels is None] += 1
                if not short:
                    self.assertIsNone(levels)
                else:
                    self.assertIn(levels, short)
        self.assertGreater(min(answers.values()), 50)


class SumTest(unittest.TestCase):
    def test_answers(self):
        self.assertEqual(check_call(self, sum_range, STAND, [1, 2, 3]), (8, 13))
        self.assertEqual(check_call(self, sum_worlds, STAND, [3, 1]), ([0, 5, 3, 0], [0, 6, 5, 2]))
        self.assertEqual(check_call(self, sum_range, DOUBTED, [2]), (0, 9))
        self.assertEqual(check_call(self, sum_range, STAND, [0]), (0, 0))

    def test_no_nodes(self):
        self.assertEqual(check_call(self, sum_range, STAND, []), (0, 0))
        for levels in check_call(self, sum_worlds, STAND, []):
            self.assertTrue(STAND.fits(levels))

    def test_levels_of_a_row(self):
        hall = Hall(row_frame([3, 3]), [Claim(0, 1, 1, 2)])
        self.assertEqual(check_call(self, sum_range, hall, [1, 2]), (2, 7))

    def test_no_world(self):
        for nodes in ([], [1], [1, 2]):
            check_no_world(self, sum_range, NOTHING, nodes)
            check_no_world(self, sum_worlds, NOTHING, nodes)
        with self.assertRaises(NoWorld):
            sum_range(Hall(Frame(1, []), [Claim(0, 0, 1)]), [])

    def test_against_a_plain_search(self):
        for random, hall, worlds in random_cases(46, 200):
            nodes = random.sample(range(hall.frame.size), random.randint(0, hall.frame.size))
            if not worlds:
                check_no_world(self, sum_range, hall, nodes)
                continue
            sums = [sum(levels[node] for node in nodes) for levels in worlds]
            self.assertEqual(check_call(self, sum_range, hall, nodes), (min(sums), max(sums)))
            least, greatest = check_call(self, sum_worlds, hall, nodes)
            self.assertIn(least, worlds)
            self.assertIn(greatest, worlds)
            self.assertEqual(sum(least[node] for node in nodes), min(sums))
            self.assertEqual(sum(greatest[node] for node in nodes), max(sums))


if __name__ == "__main__":
    unittest.main()
