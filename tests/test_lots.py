"""Points 18 to 20: largest lots, sure groups, hitting sets and covers."""

import unittest
from itertools import combinations

from counthall.doubts import AtMost, Lots, Within
from counthall.lots import hitting_sets, largest_lots, least_cover, least_sets, least_sure_groups
from tests.plain import allowed_lots, check_call, maximal, minimal, random_doubt, seeded, subsets


def random_cases(number, many):
    random = seeded(number)
    for _ in range(many):
        weights = [random.randint(1, 5) for _ in range(random.randrange(6))]
        yield random_doubt(random, 3), weights


class LotsTest(unittest.TestCase):
    def test_examples(self):
        self.assertEqual(check_call(self, largest_lots, Within(3), [2, 1, 2]), [[0, 1], [1, 2]])
        self.assertEqual(check_call(self, least_sure_groups, Within(3), [2, 1, 2]), [[0, 2]])

    def test_no_weights(self):
        for doubt in (AtMost(0), AtMost(3), Within(0), Lots([]), Lots([[1]])):
            self.assertEqual(check_call(self, largest_lots, doubt, []), [[]])
            self.assertEqual(check_call(self, least_sure_groups, doubt, []), [])

    def test_nothing_or_all_may_be_false(self):
        self.assertEqual(largest_lots(AtMost(0), [1, 1]), [[]])
        self.assertEqual(least_sure_groups(AtMost(0), [1, 1]), [[0], [1]])
        self.assertEqual(largest_lots(AtMost(2), [1, 1]), [[0, 1]])
        self.assertEqual(least_sure_groups(AtMost(2), [1, 1]), [])

    def test_numbers_that_name_no_claim(self):
        self.assertEqual(check_call(self, largest_lots, Lots([[0, 7], [39], [0, 1]]), [1, 1, 1]), [[0, 1]])
        self.assertEqual(check_call(self, largest_lots, Lots([[7]]), [1, 1, 1]), [[]])

    def test_lists_are_in_list_order(self):
        self.assertEqual(largest_lots(Lots([[1], [0, 2], [2, 3]]), [1] * 4), [[0, 2], [1], [2, 3]])
        self.assertEqual(least_sure_groups(Lots([[1], [0, 2], [2, 3]]), [1] * 4), [[0, 1], [0, 3], [1, 2], [1, 3]])

    def test_against_a_plain_search(self):
        for doubt, weights in random_cases(18, 250):
            allowed = allowed_lots(doubt, weights)
            largest = check_call(self, largest_lots, doubt, weights)
            self.assertEqual(largest, maximal(allowed))
            groups = check_call(self, least_sure_groups, doubt, weights)
            self.assertEqual(groups, minimal([lot for lot in subsets(len(weights)) if lot not in allowed]))
            outside = [[index for index in range(len(weights)) if index not in lot] for lot in largest]
            self.assertEqual(hitting_sets(outside), groups)
            for group in subsets(len(weights)):
                sure = all(set(group) - set(lot) for lot in largest)
                self.assertEqual(sure, not doubt.allows(group, weights))


class SetsTest(unittest.TestCase):
    def test_least_sets(self):
        self.assertEqual(check_call(self, least_sets, [[2, 1], [3], [1, 2, 4], [1, 2], [0, 3]]), [[1, 2], [3]])
        self.assertEqual(check_call(self, least_sets, []), [])
        self.assertEqual(check_call(self, least_sets, [[]]), [[]])
        self.assertEqual(check_call(self, least_sets, [[1], [], [2]]), [[]])

    def test_hitting_sets(self):
        self.assertEqual(check_call(self, hitting_sets, []), [[]])
        self.assertEqual(check_call(self, hitting_sets, [[]]), [])
        self.assertEqual(check_call(self, hitting_sets, [[1], []]), [])
        self.assertEqual(check_call(self, hitting_sets, [[9, 4]]), [[4], [9]])
        self.assertEqual(check_call(self, hitting_sets, [[0, 1], [1, 2], [2, 0], [0, 1]]), [[0, 1], [0, 2], [1, 2]])
        self.assertEqual(check_call(self, hitting_sets, [[0], [5], [0, 9]]), [[0, 5]])

    def test_inner_order_does_not_matter(self):
        self.assertEqual(least_sets([[9, 3, 5], [5, 3, 9, 0]]), [[3, 5, 9]])
        self.assertEqual(hitting_sets([[9, 3], [3, 9, 0]]), [[3], [9]])

    def test_against_a_plain_search(self):
        random = seeded(19)
        for _ in range(300):
            count = random.choice([3, 5, 10])
            sets = [random.sample(range(count), random.randrange(min(count, 5))) for _ in range(random.randrange(8))]
            if random.random() < 0.7:
                sets = [one for one in sets if one]
            least = check_call(self, least_sets, sets)
            self.assertEqual(least, minimal([list(one) for one in {tuple(sorted(one)) for one in sets}]))
            hitting = check_call(self, hitting_sets, sets)
            if count < 10:
                plain = [hit for hit in subsets(count) if all(set(hit) & set(one) for one in sets)]
                self.assertEqual(hitting, minimal(plain))
            self.assertEqual(hitting_sets(hitting), least)

    def test_many_sets(self):
        sets = [list(chosen) for chosen in combinations(range(10), 5)]
        self.assertEqual(hitting_sets(sets), [list(chosen) for chosen in combinations(range(10), 6)])
        self.assertEqual(least_sets(sets + [[*range(9)]] * 8), sets)


class CoverTest(unittest.TestCase):
    def check_cover(self, doubt, weights):
        answer = check_call(self, least_cover, doubt, weights)
        largest = maximal(allowed_lots(doubt, weights))
        everything = set(range(len(weights)))
        covers = [
            chosen for number in range(len(weights) + 1) for chosen in combinations(largest, number)
            if {index for lot in chosen for index in lot} == everything
        ]
        if not covers:
            self.assertIsNone(answer)
            return
        number, lots = answer
        self.assertIsInstance(answer, tuple)
        self.assertEqual(number, len(covers[0]))
        self.assertEqual(len(lots), number)
        self.assertEqual(lots, sorted(lots))
        self.assertIn(tuple(lots), covers)

    def test_no_weights(self):
        self.assertEqual(check_call(self, least_cover, AtMost(0), []), (0, []))
        self.assertEqual(check_call(self, least_cover, Lots([]), []), (0, []))

    def test_cover_that_does_not_exist(self):
        self.assertIsNone(least_cover(AtMost(0), [1]))
        self.assertIsNone(least_cover(Within(3), [1, 4, 1]))
        self.assertIsNone(least_cover(Lots([[0, 1], [3]]), [1, 1, 1]))

    def test_small_covers(self):
        self.assertEqual(least_cover(AtMost(3), [1, 1, 1]), (1, [[0, 1, 2]]))
        self.assertEqual(least_cover(Lots([[1, 2], [0, 1]]), [1, 1, 1]), (2, [[0, 1], [1, 2]]))
        self.assertEqual(least_cover(AtMost(1), [9, 9, 9]), (3, [[0], [1], [2]]))

    def test_against_a_plain_search(self):
        for doubt, weights in random_cases(20, 250):
            self.check_cover(doubt, weights)


if __name__ == "__main__":
    unittest.main()
