"""Points 48, 49 and 52: estimates of one count."""

import unittest

from counthall.doubts import AtMost, Lots, Within
from counthall.estimates import fused, fused_under, heaviest, middle_span, untrue_weight, weight_pieces
from counthall.exact import exact_counts
from counthall.runs import Runs
from tests.plain import check_call, random_doubt, random_estimates, seeded

THREE = [(1, 4, 1), (3, 6, 1), (8, 9, 1)]
FAR = 10 ** 11
REACH = range(-14, 15)


def plain_untrue(estimates, value):
    return [index for index, (low, high, _) in enumerate(estimates) if value < low or value > high]


def plain_weight(estimates, value):
    return sum(estimates[index][2] for index in plain_untrue(estimates, value))


class UntrueWeightTest(unittest.TestCase):
    def test_values(self):
        estimates = [(1, 4, 2), (3, 6, 5), (8, 8, 7)]
        for value, weight in [(0, 14), (1, 12), (2, 12), (3, 7), (4, 7), (5, 9), (6, 9), (7, 14), (8, 7), (9, 14)]:
            self.assertEqual(check_call(self, untrue_weight, estimates, value), weight)
        self.assertEqual(check_call(self, untrue_weight, [], -5), 0)
        self.assertEqual(untrue_weight([(-FAR, FAR, 99)], FAR), 0)
        self.assertEqual(untrue_weight([(-FAR, FAR, 99)], FAR + 1), 99)

    def test_pieces(self):
        self.assertEqual(check_call(self, weight_pieces, THREE, 0, 10), [
            (0, 0, 3), (1, 2, 2), (3, 4, 1), (5, 6, 2), (7, 7, 3), (8, 9, 2), (10, 10, 3),
        ])
        self.assertEqual(check_call(self, weight_pieces, THREE, 4, 5), [(4, 4, 1), (5, 5, 2)])
        self.assertEqual(check_call(self, weight_pieces, THREE, 3, 3), [(3, 3, 1)])
        self.assertEqual(check_call(self, weight_pieces, [], -FAR, FAR), [(-FAR, FAR, 0)])
        self.assertEqual(weight_pieces([(5, 5, 3)], -2, 4), [(-2, 4, 3)])
        self.assertEqual(weight_pieces(THREE, 3, 2), [])

    def test_neighbours_with_equal_weight_are_one_piece(self):
        estimates = [(1, 3, 2), (4, 6, 2), (7, 9, 3)]
        self.assertEqual(check_call(self, weight_pieces, estimates, 0, 10), [
            (0, 0, 7), (1, 6, 5), (7, 9, 4), (10, 10, 7),
        ])
        self.assertEqual(weight_pieces([(1, 3, 3), (4, 6, 1), (4, 5, 2)], 1, 6), [(1, 5, 3), (6, 6, 5)])

    def test_pieces_against_a_plain_search(self):
        random = seeded(53)
        for _ in range(300):
            estimates = random_estimates(random, 6)
            first = random.randint(-12, 10)
            last = random.randint(first, 13)
            pieces = check_call(self, weight_pieces, estimates, first, last)
            self.assertEqual((pieces[0][0], pieces[-1][1]), (first, last))
            for low, high, weight in pieces:
                self.assertLessEqual(low, high)
                for value in range(low, high + 1):
                    self.assertEqual(weight, plain_weight(estimates, value))
                    self.assertEqual(weight, untrue_weight(estimates, value))
            for left, right in zip(pieces, pieces[1:]):
                self.assertEqual(left[1] + 1, right[0])
                self.assertNotEqual(left[2], right[2])


class HeaviestTest(unittest.TestCase):
    def test_answers(self):
        self.assertEqual(check_call(self, heaviest, THREE), (2, 3, 4))
        self.assertEqual(check_call(self, heaviest, []), (0, None, None))
        self.assertEqual(check_call(self, heaviest, [(-7, -7, 99)]), (99, -7, -7))
        self.assertEqual(heaviest([(8, 9, 2), (1, 4, 2)]), (2, 1, 4))
        self.assertEqual(heaviest([(1, 4, 2), (8, 9, 3)]), (3, 8, 9))

    def test_a_run_that_different_estimates_make(self):
        self.assertEqual(check_call(self, heaviest, [(4, 6, 2), (1, 3, 2), (8, 9, 2)]), (2, 1, 6))
        self.assertEqual(heaviest([(1, 5, 1), (1, 2, 4), (3, 5, 3), (3, 4, 1)]), (5, 1, 4))

    def test_against_a_plain_search(self):
        random = seeded(54)
        for _ in range(300):
            estimates = random_estimates(random, 7)
            if not estimates:
                continue
            total = sum(estimate[2] for estimate in estimates)
            sums = {value: total - plain_weight(estimates, value) for value in REACH}
            best = [value for value in REACH if sums[value] == max(sums.values())]
            high = best[0]
            while high + 1 in best:
                high += 1
            self.assertEqual(check_call(self, heaviest, estimates), (max(sums.values()), best[0], high))


class FusedTest(unittest.TestCase):
    def check_runs(self, answer, values):
        self.assertIsInstance(answer, Runs)
        self.assertEqual(answer.pairs, Runs([(value, value) for value in values]).pairs)

    def test_answers(self):
        self.assertEqual(fused(THREE, 1).pairs, ((3, 4),))
        self.assertEqual(fused(THREE, 0).pairs, ())
        self.assertEqual(fused(THREE, 2).pairs, ((1, 6), (8, 9)))
        self.assertIsNone(fused(THREE, 3))
        self.assertIsNone(fused(THREE, 99))
        self.assertIsNone(fused([], 0))
        self.assertEqual(fused([(2, 5, 7)], 0).pairs, ((2, 5),))

    def test_weights_have_no_influence(self):
        self.assertEqual(fused([(1, 4, 99), (3, 6, 1), (8, 9, 5)], 1).pairs, ((3, 4),))

    def test_under_a_doubt(self):
        self.assertEqual(fused_under(THREE, AtMost(1)).pairs, ((3, 4),))
        self.assertEqual(fused_under(THREE, AtMost(0)).pairs, ())
        self.assertIsNone(fused_under(THREE, AtMost(3)))
        self.assertEqual(fused_under(THREE, Lots([[0, 2]])).pairs, ((3, 6),))
        self.assertEqual(fused_under(THREE, Lots([[0, 1], [1, 2, 39]])).pairs, ((1, 4), (8, 9)))
        self.assertIsNone(fused_under(THREE, Lots([[2, 0, 1]])))
        weighted = [(1, 4, 3), (3, 6, 1), (8, 9, 2)]
        self.assertEqual(fused_under(weighted, Within(3)).pairs, ((1, 4),))
        self.assertEqual(fused_under(weighted, Within(4)).pairs, ((1, 4), (8, 9)))
        self.assertIsNone(fused_under(weighted, Within(6)))

    def test_all_estimates_untrue_together(self):
        for doubt in (AtMost(0), Lots([]), Within(0)):
            self.assertIsNone(fused_under([], doubt))
        self.assertIsNone(fused_under([(5, 5, 1)], AtMost(1)))
        self.assertEqual(fused_under([(5, 5, 1)], AtMost(0)).pairs, ((5, 5),))

    def test_forty_estimates(self):
        estimates = [(index, index + 20, 1) for index in range(40)]
        self.assertEqual(fused(estimates, 19).pairs, ((20, 39),))
        doubt = Lots([list(range(20)), list(range(19, 40))])
        self.assertEqual(fused_under(estimates, doubt).pairs, ((18, 20), (39, 40)))

    def test_against_a_plain_search(self):
        random = seeded(55)
        for _ in range(300):
            estimates = random_estimates(random, 6)
            weights = [estimate[2] for estimate in estimates]
            count = random.randrange(5)
            doubt = random_doubt(random, 3)
            for function, argument, rule in [(fused, count, AtMost(count)), (fused_under, doubt, doubt)]:
                answer = function(estimates, argument)
                if rule.allows(range(len(estimates)), weights):
                    self.assertIsNone(answer)
                    continue
                before = list(estimates)
                values = [value for value in REACH if rule.allows(plain_untrue(estimates, value), weights)]
                self.check_runs(answer, values)
                self.check_runs(function(tuple(estimates), argument), values)
                self.assertEqual(estimates, before)

    def test_exact_estimates_are_told_counts(self):
        random = seeded(56)
        for _ in range(100):
            values = [random.randint(-5, 5) for _ in range(random.randint(1, 7))]
            doubt = random_doubt(random, 2)
            estimates = [(value, value, random.randint(1, 5)) for value in values]
            known = exact_counts(doubt, [estimate[2] for estimate in estimates], values)
            answer = fused_under(estimates, doubt)
            self.assertEqual(answer is None, known is None)
            if known is not None:
                self.check_runs(answer, known)


class MiddleSpanTest(unittest.TestCase):
    def test_answers(self):
        self.assertEqual(check_call(self, middle_span, [(1, 1, 1), (4, 4, 1), (9, 9, 1)]), (8, 4, 4))
        self.assertEqual(check_call(self, middle_span, [(1, 1, 1), (4, 4, 1)]), (3, 1, 4))
        self.assertEqual(check_call(self, middle_span, THREE), (4, 4, 6))

    def test_one_estimate(self):
        self.assertEqual(check_call(self, middle_span, [(-3, 5, 1)]), (0, -3, 5))
        self.assertEqual(middle_span([(-3, 5, 99)]), (0, -3, 5))
        self.assertEqual(middle_span([(7, 7, 2)]), (0, 7, 7))

    def test_weights_leave_one_middle_or_two(self):
        self.assertEqual(check_call(self, middle_span, [(1, 1, 2), (9, 9, 1)]), (8, 1, 1))
        self.assertEqual(check_call(self, middle_span, [(1, 1, 2), (9, 9, 2)]), (16, 1, 9))
        self.assertEqual(middle_span([(0, 2, 3), (9, 9, 2), (5, 6, 1)]), (17, 2, 5))

    def test_far_values(self):
        self.assertEqual(middle_span([(-FAR, -FAR, 99), (FAR, FAR, 99)]), (2 * 99 * FAR, -FAR, FAR))

    def test_against_a_plain_search(self):
        random = seeded(57)
        several = 0
        for _ in range(300):
            estimates = random_estimates(random, 6)
            if not estimates:
                continue
            costs = {
                value: sum(weight * max(0, low - value, value - high) for low, high, weight in estimates)
                for value in REACH
            }
            best = [value for value in REACH if costs[value] == min(costs.values())]
            answer = check_call(self, middle_span, estimates)
            self.assertIsInstance(answer, tuple)
            self.assertEqual(answer, (costs[best[0]], best[0], best[-1]))
            self.assertEqual(best, list(range(best[0], best[-1] + 1)))
            several += len(best) > 1
        self.assertGreater(several, 30)


if __name__ == "__main__":
    unittest.main()
