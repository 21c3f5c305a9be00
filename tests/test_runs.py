"""Point 6: runs."""

import unittest

from counthall.runs import Runs
from tests.plain import seeded


def members(runs):
    return {x for low, high in runs.pairs for x in range(low, high + 1)}


class RunsTest(unittest.TestCase):
    def test_example(self):
        self.assertEqual(Runs([(5, 6), (1, 2), (3, 3)]).pairs, ((1, 3), (5, 6)))

    def test_pairs_that_touch_overlap_or_stand_for_nothing(self):
        self.assertEqual(Runs([(1, 2), (3, 4)]).pairs, ((1, 4),))
        self.assertEqual(Runs([(1, 2), (4, 4)]).pairs, ((1, 2), (4, 4)))
        self.assertEqual(Runs([(1, 5), (2, 3), (4, 8)]).pairs, ((1, 8),))
        self.assertEqual(Runs([(1, 9), (2, 3)]).pairs, ((1, 9),))
        self.assertEqual(Runs([(4, 3), (7, 7), (9, 1)]).pairs, ((7, 7),))
        self.assertEqual(Runs([(1, 1), (3, 2), (1, 1)]).pairs, ((1, 1),))
        self.assertEqual(Runs([(-3, -2), (-1, 0)]).pairs, ((-3, 0),))

    def test_empty_set(self):
        for empty in (Runs([]), Runs(()), Runs([(2, 1)])):
            self.assertEqual(empty.pairs, ())
            self.assertFalse(empty)
            self.assertEqual(empty.size(), 0)
            self.assertIsNone(empty.least())
            self.assertIsNone(empty.greatest())
            self.assertEqual(empty.gaps().pairs, ())
            self.assertEqual(list(empty), [])
            self.assertNotIn(0, empty)
            self.assertEqual((empty | Runs([(1, 2)])).pairs, ((1, 2),))
            self.assertEqual((empty & Runs([(1, 2)])).pairs, ())

    def test_truth_membership_and_iteration(self):
        runs = Runs([(0, 0), (4, 6)])
        self.assertIs(bool(runs), True)
        self.assertIs(bool(Runs([])), False)
        self.assertEqual([x for x in range(-2, 9) if x in runs], [0, 4, 5, 6])
        self.assertEqual(list(runs), [(0, 0), (4, 6)])
        self.assertEqual([high - low for low, high in runs], [0, 2])
        self.assertIsInstance(runs.pairs, tuple)
        self.assertTrue(all(isinstance(pair, tuple) for pair in runs.pairs))

    def test_measures(self):
        runs = Runs([(8, 9), (-4, -2), (3, 3)])
        self.assertEqual((runs.size(), runs.least(), runs.greatest()), (6, -4, 9))
        self.assertEqual(runs.gaps().pairs, ((-1, 2), (4, 7)))
        self.assertEqual(Runs([(3, 8)]).gaps().pairs, ())
        self.assertEqual(Runs([(0, 0)]).least(), 0)

    def test_caller_changes_its_list(self):
        pairs = [(1, 2)]
        runs = Runs(pairs)
        pairs.append((8, 9))
        self.assertEqual(runs.pairs, ((1, 2),))
        self.assertEqual(pairs, [(1, 2), (8, 9)])

    def test_tuples_in_the_place_of_lists(self):
        self.assertEqual(Runs(((5, 6), (1, 2), (3, 3))).pairs, ((1, 3), (5, 6)))

    def test_against_python_sets(self):
        random = seeded(6)
        for _ in range(400):
            made = []
            for _ in range(2):
                starts = [random.randint(-9, 9) for _ in range(random.randrange(6))]
                pairs = [(low, low + random.randint(-2, 4)) for low in starts]
                plain = {x for low, high in pairs for x in range(low, high + 1)}
                made.append((Runs(pairs), plain))
            (one, first), (other, second) = made
            self.assertEqual(members(one), first)
            self.assertEqual([x for x in range(-15, 16) if x in one], sorted(first))
            self.assertEqual(one.size(), len(first))
            self.assertEqual(members(one & other), first & second)
            self.assertEqual(members(one | other), first | second)
            if first:
                between = set(range(min(first), max(first) + 1))
                self.assertEqual(members(one.gaps()), between - first)
            for runs in (one, one & other, one | other, one.gaps()):
                self.assertTrue(all(left[1] + 1 < right[0] for left, right in zip(runs.pairs, runs.pairs[1:])))
                self.assertTrue(all(low <= high for low, high in runs.pairs))


if __name__ == "__main__":
    unittest.main()
