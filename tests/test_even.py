"""Points 71 and 72: claims that all grow at once."""

import unittest
from fractions import Fraction
from math import gcd

from counthall.chains import chain_end
from counthall.claims import Claim
from counthall.errors import NoSuchNode
from counthall.even import even_against, even_fraction, even_growth
from counthall.frames import Frame
from counthall.readings import row_frame
from tests.plain import (
    check_call, claim_holds, difference, random_claim, random_frame, seeded, simple_chains, worlds_of,
)

ROW = row_frame([9])
APART = [Claim(0, 1, 2, 3), Claim(0, 1, 8, 8)]


def grown(claims, shares, amount):
    return [claim.widened(amount * share) for claim, share in zip(claims, shares)]


def plain_need(claim, share, levels):
    """The least number by which a claim must grow to hold in a world, or None if there is none."""
    excess = claim.excess(levels)
    if excess == 0:
        return 0
    return -(-excess // share) if share else None


def plain_amount(claims, shares, worlds):
    """The least number by which all claims must grow to hold in one of the worlds, or None."""
    amounts = []
    for levels in worlds:
        needs = [plain_need(claim, share, levels) for claim, share in zip(claims, shares)]
        if None not in needs:
            amounts.append(max(needs, default=0))
    return min(amounts, default=None)


def plain_fraction(frame, claims, shares):
    """The greatest need of a ring, by a search through all rings that come to no node twice."""
    greatest = Fraction(0)
    for start in range(frame.size):
        for end, total, chain in simple_chains(frame, claims, start):
            if chain and end == start and total < 0:
                share = sum(shares[index] for source, index, _ in chain if source == "claim")
                if share == 0:
                    return None
                greatest = max(greatest, Fraction(-total, share))
    return greatest


def random_even(number, many, most_claims=5):
    random = seeded(number)
    for _ in range(many):
        frame = random_frame(random, random.randint(1, 4))
        claims = [random_claim(random, frame.size, 5) for _ in range(random.randint(0, most_claims))]
        shares = random.choice([None, [random.choice([0, 1, 2, 3, 7]) for _ in claims], [5] * len(claims)])
        yield random, frame, claims, shares, worlds_of(frame, 8)


class EvenGrowthTest(unittest.TestCase):
    def check_even(self, frame, claims, shares=None, worlds=None):
        given = [1] * len(claims) if shares is None else shares
        answer = check_call(self, even_growth, frame, claims, shares)
        self.assertIsInstance(answer, tuple)
        amount, levels, paper = answer
        if worlds is not None:
            self.assertEqual(amount, plain_amount(claims, given, worlds))
        if amount is None:
            self.assertIsNone(levels)
            self.check_ring(frame, claims, paper)
            self.assertTrue(all(given[index] == 0 for source, index, _ in paper[1] if source == "claim"))
            return None
        self.assertTrue(frame.allows(levels))
        self.assertTrue(all(claim_holds(claim, levels) for claim in grown(claims, given, amount)))
        if amount == 0:
            self.assertIsNone(paper)
        else:
            self.check_ring(frame, grown(claims, given, amount - 1), paper)
        return amount

    def check_ring(self, frame, claims, paper):
        self.assertIsInstance(paper, tuple)
        start, ring = paper
        end, total = chain_end(frame, claims, start, ring)
        self.assertEqual(end, start)
        self.assertLess(total, 0)
        self.assertTrue(all(isinstance(link, tuple) for link in ring))

    def test_answers(self):
        self.assertEqual(self.check_even(ROW, APART), 3)
        self.assertEqual(self.check_even(ROW, APART, [1, 1]), 3)
        self.assertEqual(self.check_even(ROW, APART, [3, 2]), 1)
        self.assertEqual(self.check_even(ROW, APART, [99, 99]), 1)
        self.assertEqual(self.check_even(ROW, APART, [0, 1]), 5)
        self.assertEqual(self.check_even(ROW, APART, [2, 0]), 3)
        self.assertEqual(self.check_even(ROW, APART[:1]), 0)

    def test_shares_left_out_and_none(self):
        self.assertEqual(even_growth(ROW, APART), even_growth(ROW, APART, None))
        self.assertEqual(even_growth(ROW, APART), even_growth(ROW, APART, [1, 1]))

    def test_no_claims(self):
        self.assertEqual(self.check_even(ROW, []), 0)
        self.assertEqual(self.check_even(ROW, [], []), 0)
        self.assertEqual(check_call(self, even_growth, Frame(1, []), []), (0, [0], None))

    def test_a_clash_that_no_growing_mends(self):
        self.assertIsNone(self.check_even(ROW, APART, [0, 0]))
        self.assertIsNone(self.check_even(ROW, [Claim(0, 1, 10)], [0]))
        self.assertIsNone(self.check_even(ROW, [Claim(0, 1, 4, 4), Claim(1, 1, 3), *APART], [9, 0, 9, 9]))
        self.assertIsNone(self.check_even(ROW, [APART[0], Claim(0, 1, 4, 4), APART[1]], [0, 99, 0]))
        self.assertEqual(self.check_even(ROW, [Claim(0, 1, 10)], [1]), 1)

    def test_claims_about_nothing(self):
        self.assertEqual(self.check_even(ROW, [Claim(1, 1, 7, 9)], [2]), 4)
        self.assertEqual(self.check_even(ROW, [Claim(1, 1, -7, 9)], [0]), 0)

    def test_needs_that_are_no_whole_numbers(self):
        claims = [Claim(0, 1, 3, 3), Claim(0, 1, 8, 8)]
        for shares, amount in [([1, 1], 3), ([2, 1], 2), ([4, 3], 1), ([1, 3], 2), ([0, 3], 2)]:
            self.assertEqual(self.check_even(ROW, claims, shares), amount)

    def test_far_bounds(self):
        far = 10 ** 9
        frame = Frame(3, [(0, 1, -far, far), (1, 2, -far, far)])
        claims = [Claim(0, 1, far, far), Claim(1, 2, far, far), Claim(0, 2, -far, -far)]
        self.assertEqual(self.check_even(frame, claims), far)
        self.assertEqual(self.check_even(frame, claims, [0, 0, 1]), 3 * far)

    def test_random_claims(self):
        amounts = []
        for _, frame, claims, shares, worlds in random_even(541, 250):
            amounts.append(self.check_even(frame, claims, shares, worlds))
        self.assertGreater(amounts.count(None), 10)
        self.assertGreater(amounts.count(0), 20)
        self.assertGreater(len([amount for amount in amounts if amount]), 60)


class EvenFractionTest(unittest.TestCase):
    def check_fraction(self, frame, claims, shares=None):
        answer = check_call(self, even_fraction, frame, claims, shares)
        amount = even_growth(frame, claims, shares)[0]
        if answer is None:
            self.assertIsNone(amount)
            return None
        self.assertIsInstance(answer, tuple)
        numerator, denominator = answer
        self.assertGreater(denominator, 0)
        self.assertEqual(gcd(numerator, denominator), 1)
        self.assertEqual(amount, -(-numerator // denominator))
        return answer

    def test_answers(self):
        self.assertEqual(self.check_fraction(ROW, APART), (5, 2))
        self.assertEqual(self.check_fraction(ROW, APART, [3, 2]), (1, 1))
        self.assertEqual(self.check_fraction(ROW, APART, [99, 99]), (5, 198))
        self.assertEqual(self.check_fraction(ROW, APART, [0, 2]), (5, 2))
        self.assertEqual(self.check_fraction(ROW, [Claim(0, 1, 12, weight=9)], [9]), (1, 3))
        self.assertEqual(self.check_fraction(ROW, [Claim(1, 1, 12)]), (12, 1))

    def test_no_negative_ring(self):
        self.assertEqual(self.check_fraction(ROW, []), (0, 1))
        self.assertEqual(self.check_fraction(ROW, APART[:1], [0]), (0, 1))
        self.assertEqual(self.check_fraction(Frame(1, []), [Claim(0, 0, 0, 0)]), (0, 1))

    def test_a_clash_that_no_growing_mends(self):
        self.assertIsNone(self.check_fraction(ROW, APART, [0, 0]))
        self.assertIsNone(self.check_fraction(ROW, [*APART, Claim(1, 1, 1)], [9, 9, 0]))

    def test_fractions_that_lie_close_together(self):
        # Two rings of five claims each, whose needs differ by less than a part in 240000.
        frame = Frame(11, [(0, node, -10 ** 9, 10 ** 9) for node in range(1, 11)])
        pairs = [(1, 2), (2, 3), (3, 4), (4, 5), (5, 1), (6, 7), (7, 8), (8, 9), (9, 10), (10, 6)]
        for shares, lows, answer in [
            ([99, 99, 99, 99, 99], [99, 99, 99, 99, 98], (494, 495)),
            ([99, 99, 99, 99, 99], [99, 99, 99, 99, 97], (493, 494)),
            ([99, 99, 98, 99, 99], [99, 99, 99, 99, 97], (493, 494)),
            ([99, 99, 99, 99, 97], [99, 99, 99, 99, 95], (493, 494)),
            ([99, 99, 99, 99, 1], [99, 99, 99, 99, 0], (493, 494)),
            ([99, 99, 99, 99, 2], [99, 99, 99, 99, 2], (1, 1)),
        ]:
            for first, second in [(0, 5), (5, 0)]:
                given = [0] * 10
                claims = [None] * 10
                for at in range(5):
                    given[first + at] = shares[at]
                    claims[first + at] = Claim(*pairs[first + at], lows[at])
                    given[second + at] = [99, 99, 99, 99, 98][at]
                    claims[second + at] = Claim(*pairs[second + at], [99, 99, 99, 98, 98][at])
                self.assertEqual(self.check_fraction(frame, claims, given), answer)

    def test_fractions_that_lie_as_close_as_they_can(self):
        # Two rings share 14 claims, whose shares have the sum 1386; one claim more closes each of them.
        frame = Frame(16, [(0, node, -10 ** 9, 10 ** 9) for node in range(1, 16)])
        common = [Claim(node, node + 1, 99) for node in range(1, 15)]
        for low, other, answer in [(0, -1, (1386, 1387)), (-1385, -1385, (1, 1386)), (0, 0, (1, 1))]:
            closing = [(Claim(15, 1, low), 1), (Claim(15, 1, other), 0)]
            for pairs in (closing, closing[::-1]):
                for places in (slice(0, 0), slice(7, 7), slice(14, 14)):
                    claims = list(common)
                    claims[places] = [claim for claim, _ in pairs]
                    shares = [99] * 14
                    shares[places] = [share for _, share in pairs]
                    self.assertEqual(self.check_fraction(frame, claims, shares), answer)

    def test_against_all_rings(self):
        answers = []
        for _, frame, claims, shares, _ in random_even(542, 150, 4):
            given = [1] * len(claims) if shares is None else shares
            need = plain_fraction(frame, claims, given)
            answer = self.check_fraction(frame, claims, shares)
            answers.append(answer)
            self.assertEqual(answer, None if need is None else (need.numerator, need.denominator))
        self.assertGreater(len([answer for answer in answers if answer and answer[1] > 1]), 20)


class EvenAgainstTest(unittest.TestCase):
    def check_against(self, frame, claims, first, second, high, shares=None, worlds=None):
        given = [1] * len(claims) if shares is None else shares
        answer = check_call(self, even_against, frame, claims, first, second, high, shares)
        if worlds is not None:
            above = [levels for levels in worlds if difference(levels, first, second) > high]
            self.assertEqual(None if answer is None else answer[0], plain_amount(claims, given, above))
        if answer is None:
            return None
        self.assertIsInstance(answer, tuple)
        amount, levels = answer
        self.assertTrue(frame.allows(levels))
        self.assertGreater(difference(levels, first, second), high)
        self.assertTrue(all(claim_holds(claim, levels) for claim in grown(claims, given, amount)))
        return amount

    def test_answers(self):
        for high, amount in [(-1, 3), (5, 3), (6, 4), (7, 5), (8, 6), (9, None)]:
            self.assertEqual(self.check_against(ROW, APART, 0, 1, high), amount)
        for high, shares, amount in [(6, [2, 9], 2), (6, [0, 9], None), (2, [0, 2], 3), (0, [0, 0], None)]:
            self.assertEqual(self.check_against(ROW, APART, 0, 1, high, shares), amount)
        self.assertEqual(self.check_against(ROW, [], 0, 1, 8), 0)
        self.assertIsNone(self.check_against(ROW, [], 0, 1, 9, []))

    def test_one_node_twice(self):
        self.assertIsNone(self.check_against(ROW, [], 1, 1, 0))
        self.assertEqual(self.check_against(ROW, APART, 1, 1, -1), 3)
        self.assertEqual(self.check_against(ROW, APART, 0, 0, -10 ** 11), 3)

    def test_bounds_that_hold_at_any_growth(self):
        self.assertIsNone(self.check_against(ROW, [Claim(0, 1, None, 4)], 0, 1, 4, [0]))
        self.assertEqual(self.check_against(ROW, [Claim(0, 1, None, 4)], 0, 1, 4, [1]), 1)
        self.assertEqual(self.check_against(ROW, [Claim(0, 1, None, 4)], 0, 1, 3, [0]), 0)

    def test_random_claims(self):
        found = {True: 0, False: 0}
        for random, frame, claims, shares, worlds in random_even(543, 120):
            first, second = random.randrange(frame.size), random.randrange(frame.size)
            for high in range(-5, 6):
                found[self.check_against(frame, claims, first, second, high, shares, worlds) is None] += 1
        self.assertGreater(min(found.values()), 100)


class NodesTest(unittest.TestCase):
    def test_nodes_that_the_frame_does_not_have(self):
        claims = [Claim(0, 1, 10), Claim(0, 1), Claim(2, 0, 5, 5), Claim(0, 15)]
        for function, more in [(even_growth, []), (even_fraction, []), (even_against, [0, 1, 10 ** 6])]:
            for shares in (None, [0] * 4, [1, 0, 0, 1], [0, 1, 1, 0], [1, 1, 1, 0], [0, 1, 0, 1]):
                with self.assertRaises(NoSuchNode) as caught:
                    function(ROW, claims, *more, shares)
                self.assertEqual(caught.exception.index, 2)


if __name__ == "__main__":
    unittest.main()
