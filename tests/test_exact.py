"""Point 21: one box whose exact number every claim tells."""

import unittest
from itertools import product

from counthall.doubts import AtMost, Lots, Within
from counthall.exact import exact_counts, parting_values
from tests.plain import allowed_lots, check_call, random_doubt, seeded


def plain_counts(doubt, weights, values):
    others = {v: [i for i, told in enumerate(values) if told != v] for v in range(-9, 10)}
    return [v for v in others if doubt.allows(others[v], weights)]


class ExactTest(unittest.TestCase):
    def test_no_claims(self):
        self.assertIsNone(exact_counts(AtMost(0), [], []))
        self.assertEqual(check_call(self, parting_values, AtMost(0), []), [])

    def test_all_claims_may_be_false(self):
        self.assertIsNone(exact_counts(AtMost(2), [1, 1], [4, 4]))
        self.assertEqual(exact_counts(AtMost(1), [1, 1], [4, 4]), [4])

    def test_small_cases(self):
        self.assertEqual(check_call(self, exact_counts, AtMost(1), [1, 1, 1], [7, -3, 7]), [7])
        self.assertEqual(check_call(self, exact_counts, AtMost(2), [1, 1, 1], [7, -3, 7]), [-3, 7])
        self.assertEqual(check_call(self, exact_counts, AtMost(1), [1, 1, 1], [7, -3, 5]), [])
        self.assertEqual(check_call(self, exact_counts, Within(3), [2, 1, 2], [9, 9, 5]), [5, 9])
        self.assertEqual(check_call(self, exact_counts, Within(2), [2, 1, 2], [9, 9, 5]), [9])
        far = 10 ** 12 - 1
        doubt = Lots([[0], [1, 2]])
        self.assertEqual(check_call(self, exact_counts, doubt, [1, 1, 1], [far, 4, 4]), [4, far])
        self.assertEqual(exact_counts(AtMost(0), [1], [0]), [0])

    def test_parting_values(self):
        self.assertIsNone(parting_values(AtMost(1), [1, 1, 1]))
        self.assertIsNone(parting_values(AtMost(0), [1]))
        self.assertIsNotNone(parting_values(AtMost(1), [1, 1]))
        self.assertIsNotNone(parting_values(AtMost(3), [1, 1, 1]))

    def test_against_a_plain_search(self):
        random = seeded(21)
        kinds = {True: 0, False: 0}
        for _ in range(250):
            weights = [random.randint(1, 5) for _ in range(random.randrange(6))]
            doubt = random_doubt(random, 3)
            allowed = allowed_lots(doubt, weights)
            everything = set(range(len(weights)))
            parts = any(set(one) | set(other) == everything for one in allowed for other in allowed)
            kinds[parts] += 1
            told = check_call(self, parting_values, doubt, weights)
            if not parts:
                self.assertIsNone(told)
            else:
                self.assertEqual(len(told), len(weights))
                self.assertTrue(all(value in (0, 1) for value in told))
                possible = plain_counts(doubt, weights, told)
                self.assertIn(0, possible)
                self.assertIn(1, possible)
            for values in product(range(2), repeat=len(weights)):
                values = [7 * value - 3 for value in values]
                counts = check_call(self, exact_counts, doubt, weights, values)
                if sorted(everything) in allowed:
                    self.assertIsNone(counts)
                else:
                    self.assertEqual(counts, plain_counts(doubt, weights, values))
                    self.assertTrue(parts or len(counts) <= 1)
        self.assertGreater(min(kinds.values()), 30)


if __name__ == "__main__":
    unittest.main()
