"""Points 36 to 39: papers, sheaves and counters."""

import unittest
from fractions import Fraction
from math import comb

from counthall.chains import chain_end
from counthall.claims import Claim
from counthall.doubts import AtMost, Lots, Within
from counthall.frames import Frame
from counthall.halls import Hall
from counthall.readings import row_frame
from counthall.sheaves import accepts_sheaf, counter, sheaf
from counthall.tables import closed_table, row_world
from tests.plain import (
    allowed_lots, check_call, difference, fitting_worlds, largest_of, nodes_of_chain, random_cases, rest_of, seeded,
    wide_frame,
)

ROW = row_frame([9, 9])
FOURS = Hall(ROW, [Claim(0, 1, 4, 4), Claim(0, 1, 4, 4), Claim(0, 1, 7, 7)], doubt=AtMost(1))
NOTHING = Hall(ROW, [Claim(0, 1, 4, 4), Claim(0, 1, 5, 5), Claim(0, 1, 7, 7)], doubt=AtMost(1))
UP0 = (0, [("claim", 0, "up")])
UP1 = (0, [("claim", 1, "up")])
RING02 = (0, [("claim", 0, "up"), ("claim", 2, "down")])


def claims_in(chain):
    return {index for source, index, _ in chain if source == "claim"}


def meets(lot, paper):
    return bool(set(lot) & claims_in(paper[1]))


def all_links(hall):
    places = [("rule", index) for index in range(len(hall.frame.rules))]
    places += [("claim", index) for index in range(len(hall.claims))]
    return [(source, index, direction) for source, index in places for direction in ("up", "down")]


def link_step(hall, link):
    """Where a link begins and ends, and its length; None if it does not exist."""
    source, index, direction = link
    parts = hall.frame.rules[index] if source == "rule" else hall.claims[index].parts()
    first, second, low, high = parts[:4]
    if direction == "up":
        return None if high is None else (first, second, high)
    return None if low is None else (second, first, -low)


def plain_paper(hall, first, second, high, paper):
    """Whether a tuple of a node and a list of existing links is a paper."""
    node, chain = paper
    total = 0
    for link in chain:
        step = link_step(hall, link)
        if step is None or step[0] != node:
            return False
        node = step[1]
        total += step[2]
    proves = paper[0] == first and node == second and total <= high
    return proves or (len(chain) > 0 and node == paper[0] and total < 0)


def plain_accepts(hall, first, second, high, papers):
    if not all(plain_paper(hall, first, second, high, paper) for paper in papers):
        return False
    return not any(all(meets(lot, paper) for paper in papers) for lot in allowed_lots(hall.doubt, hall.weights))


class SheafTest(unittest.TestCase):
    def check_sheaf(self, hall, first, second, high):
        """Ask for a sheaf and check all that points 36 to 38 say of it."""
        papers = check_call(self, sheaf, hall, first, second, high)
        if papers is None:
            return None
        self.assertTrue(papers)
        self.assertTrue(plain_accepts(hall, first, second, high, papers))
        self.assertIs(check_call(self, accepts_sheaf, hall, first, second, high, papers), True)
        allowed = allowed_lots(hall.doubt, hall.weights)
        for left_out in range(len(papers)):
            others = papers[:left_out] + papers[left_out + 1:]
            self.assertTrue(any(all(meets(lot, paper) for paper in others) for lot in allowed))
            self.assertIs(accepts_sheaf(hall, first, second, high, others), False)
        for paper in papers:
            self.assertIsInstance(paper, tuple)
            nodes = nodes_of_chain(hall.frame, hall.claims, *paper)
            inner = nodes[1:] if paper[1] and nodes[0] == nodes[-1] else nodes
            self.assertEqual(len(set(inner)), len(inner))
        if isinstance(hall.doubt, AtMost):
            k = hall.doubt.count
            parts = [Fraction(1, comb(len(claims_in(chain)) + k, k)) for _, chain in papers]
            self.assertLessEqual(sum(parts), 1)
        return papers

    def test_two_papers(self):
        self.assertEqual(sorted(self.check_sheaf(FOURS, 0, 1, 4)), [UP0, UP1])
        self.assertEqual(sorted(self.check_sheaf(FOURS, 0, 1, 6)), [UP0, UP1])
        self.assertEqual(len(self.check_sheaf(FOURS, 0, 1, 7)), 2)

    def test_a_bound_of_the_rules(self):
        self.assertEqual(self.check_sheaf(FOURS, 0, 1, 9), [(0, [("rule", 0, "up")])])
        self.assertEqual(self.check_sheaf(FOURS, 1, 1, 0), [(1, [])])
        self.assertEqual(self.check_sheaf(Hall(Frame(1, []), []), 0, 0, 5), [(0, [])])

    def test_a_bound_that_need_not_hold(self):
        self.assertIsNone(check_call(self, sheaf, FOURS, 0, 1, 3))
        self.assertIsNone(check_call(self, sheaf, FOURS, 0, 2, 12))
        self.assertIsNone(check_call(self, sheaf, FOURS, 1, 1, -1))
        self.assertIsNone(check_call(self, sheaf, Hall(ROW, FOURS.claims, doubt=AtMost(2)), 0, 1, 4))

    def test_no_world_fits(self):
        for bound in [(0, 1, -99), (1, 1, -1), (2, 0, 3), (0, 1, 5), (0, 2, 17)]:
            self.assertIsNotNone(self.check_sheaf(NOTHING, *bound))
            self.assertIsNone(check_call(self, counter, NOTHING, *bound))

    def test_rings(self):
        papers = self.check_sheaf(NOTHING, 0, 1, -99)
        self.assertTrue(all(len(chain) == 2 for _, chain in papers))
        self.assertEqual(len(papers), 3)
        claims = [Claim(1, 1, 1), Claim(1, 1, None, -2)]
        papers = self.check_sheaf(Hall(ROW, claims, doubt=AtMost(1)), 0, 1, 0)
        self.assertEqual(sorted(papers), [(1, [("claim", 0, "down")]), (1, [("claim", 1, "up")])])

    def test_other_doubts(self):
        claims = [Claim(0, 1, 4, 4), Claim(0, 1, 4, 4), Claim(0, 1, 2, 2), Claim(0, 1, 3, 3, weight=5)]
        for doubt in (Lots([[0, 2], [1, 2]]), Lots([]), Within(1), Lots([[0, 1], [2, 3]]) & AtMost(1), AtMost(1)):
            self.check_sheaf(Hall(ROW, claims, doubt=doubt), 0, 1, 4)
        self.assertIsNone(sheaf(Hall(ROW, claims, doubt=Lots([[0, 1, 2, 3]])), 0, 1, 4))

    def test_chains_over_rules_and_claims(self):
        claims = [Claim(0, 1, None, 3), Claim(1, 2, None, 2), Claim(0, 2, None, 5), Claim(2, 0, -5)]
        self.check_sheaf(Hall(ROW, claims, doubt=AtMost(1)), 0, 2, 5)
        self.check_sheaf(Hall(ROW, claims, doubt=Lots([[0, 3], [1, 2]])), 0, 2, 5)
        papers = self.check_sheaf(Hall(ROW, claims, doubt=AtMost(2)), 0, 2, 5)
        self.assertEqual(len(papers), 3)

    def test_against_a_plain_search(self):
        counts = {}
        for random, hall, worlds in random_cases(38, 450, 6):
            first = random.randrange(hall.frame.size)
            second = random.randrange(hall.frame.size)
            reach = [difference(levels, first, second) for levels in worlds]
            high = random.randint(-5, 6)
            if reach and random.random() < 0.7:
                high = max(reach) + random.choice([-1, 0, 0, 2])
            papers = self.check_sheaf(hall, first, second, high)
            holds = all(value <= high for value in reach)
            self.assertEqual(papers is not None, holds)
            self.assertEqual(check_call(self, counter, hall, first, second, high) is None, holds)
            counts[len(papers or [])] = counts.get(len(papers or []), 0) + 1
        self.assertGreater(counts[0], 20)
        self.assertGreater(counts[1], 20)
        self.assertGreater(sum(counts.get(many, 0) for many in range(2, 9)), 20)

    def test_several_tellers_of_one_bound(self):
        random = seeded(43)
        for _ in range(60):
            claims = []
            for _ in range(random.randint(3, 7)):
                first = random.randrange(3)
                claims.append(Claim(first, first + 1, None, random.randint(0, 2), weight=random.randint(1, 3)))
            doubt = random.choice([AtMost(1), AtMost(2), Within(3), Lots([[0, 1], [2], [3, 4]])])
            hall = Hall(row_frame([3, 3, 3]), claims, doubt=doubt)
            for high in range(10):
                self.check_sheaf(hall, 0, 3, high)


class AcceptsSheafTest(unittest.TestCase):
    def check_answer(self, hall, bound, papers, answer):
        self.assertIs(check_call(self, accepts_sheaf, hall, *bound, papers), answer)
        self.assertEqual(plain_accepts(hall, *bound, papers), answer)

    def test_the_empty_list(self):
        for hall in (FOURS, NOTHING, Hall(ROW, [], doubt=AtMost(0))):
            self.check_answer(hall, (0, 1, 9), [], False)

    def test_papers(self):
        bound = (0, 1, 4)
        self.check_answer(FOURS, bound, [UP0, UP1], True)
        self.check_answer(FOURS, bound, [UP1, UP0], True)
        self.check_answer(FOURS, bound, [UP0], False)
        self.check_answer(FOURS, bound, [UP0, UP0], False)
        self.check_answer(FOURS, bound, [UP0, UP1, UP0, UP0], True)
        self.check_answer(FOURS, bound, [UP0, UP1, RING02], True)
        self.check_answer(FOURS, bound, [UP0, RING02], False)
        self.check_answer(FOURS, bound, [RING02, UP1], True)
        self.check_answer(Hall(ROW, FOURS.claims), bound, [UP0], True)
        self.check_answer(Hall(ROW, FOURS.claims, doubt=AtMost(2)), bound, [UP0, UP1], False)
        self.check_answer(Hall(ROW, FOURS.claims, doubt=Lots([[0, 2], [1, 2]])), bound, [UP0, UP1], True)

    def test_one_wrong_paper_spoils_the_list(self):
        bound = (0, 1, 4)
        for wrong in [
            (0, [("claim", 2, "up")]), (0, [("rule", 0, "up")]), (1, [("claim", 0, "up")]), (0, []), (1, []),
            (1, [("claim", 0, "down")]), (0, [("claim", 2, "up"), ("claim", 0, "down")]),
            (0, [("claim", 0, "up"), ("rule", 1, "up")]), (0, [("claim", 0, "up"), ("claim", 1, "down")]),
            (0, [("claim", 0, "up"), ("claim", 0, "up")]),
        ]:
            self.check_answer(FOURS, bound, [UP0, UP1, wrong], False)
            self.check_answer(FOURS, bound, [wrong, UP0, UP1], False)

    def test_links_that_do_not_exist(self):
        hall = Hall(ROW, [*FOURS.claims, Claim(0, 1, 2)], doubt=AtMost(1))
        for link in [
            ("claim", 3, "up"), ("claim", 4, "up"), ("claim", -1, "up"), ("rule", 2, "up"), ("rule", -2, "up"),
            ("recount", 0, "up"), ("claim", 0, "right"), ("", 0, ""), ("claims", 10 ** 11, "up"),
        ]:
            papers = [UP0, UP1, (0, [link])]
            self.assertIs(check_call(self, accepts_sheaf, hall, 0, 1, 4, papers), False)
            self.assertIs(accepts_sheaf(hall, 0, 1, 4, [UP0, UP1, (0, [("claim", 0, "up"), link])]), False)

    def test_the_total_at_the_bound(self):
        self.check_answer(FOURS, (0, 1, 4), [UP0, UP1], True)
        self.check_answer(FOURS, (0, 1, 3), [UP0, UP1], False)
        self.check_answer(FOURS, (1, 1, 0), [(1, [])], True)
        self.check_answer(FOURS, (1, 1, -1), [(1, [])], False)

    def test_a_ring_needs_a_negative_total(self):
        hall = Hall(ROW, [Claim(0, 1, 4, 4), Claim(1, 1, 0, 0), Claim(1, 1, None, -1)])
        self.check_answer(hall, (0, 1, 0), [(1, [("claim", 1, "up")])], False)
        self.check_answer(hall, (0, 1, 0), [(1, [("claim", 2, "up")])], True)
        self.check_answer(hall, (0, 1, 0), [(0, [("claim", 0, "up"), ("claim", 0, "down")])], False)
        self.check_answer(hall, (1, 1, 0), [(1, [("claim", 1, "up")])], True)

    def test_chains_that_come_to_a_node_several_times(self):
        hall = Hall(ROW, [Claim(0, 1, 4, 4), Claim(1, 1, None, -1), Claim(0, 1, 4, 4)], doubt=AtMost(1))
        up, down, less = ("claim", 0, "up"), ("claim", 0, "down"), ("claim", 1, "up")
        again = (0, [up, down, up])
        self.check_answer(hall, (0, 1, 4), [again, (0, [("claim", 2, "up")])], True)
        self.check_answer(hall, (0, 1, 4), [again, again], False)
        self.check_answer(hall, (0, 1, -9), [(1, [less] * 3), (0, [up, *[less] * 13])], False)
        self.check_answer(hall, (0, 1, -9), [(0, [up, less, down]), (0, [("claim", 2, "up"), less, down])], False)
        self.check_answer(Hall(ROW, hall.claims), (0, 1, -9), [(0, [up, less, less, down])], True)
        # A claim that a chain passes three times is still one claim, and no other one.
        self.check_answer(Hall(ROW, hall.claims, doubt=Lots([[0]])), (0, 1, 4), [(0, [up, down, up])], False)
        self.check_answer(Hall(ROW, hall.claims, doubt=Lots([[1, 2]])), (0, 1, 4), [(0, [up, down, up])], True)

    def test_random_papers(self):
        random = seeded(39)
        answers = {True: 0, False: 0}
        for _, hall, _ in random_cases(40, 200, 4, (1, 2, 3)):
            links = all_links(hall)
            first = random.randrange(hall.frame.size)
            second = random.randrange(hall.frame.size)
            high = random.randint(-6, 6)
            papers = []
            for _ in range(random.randint(1, 4)):
                start = random.choice([first, random.randrange(hall.frame.size)])
                node, chain = start, []
                for _ in range(random.randrange(5)):
                    choices = [link for link in links if (link_step(hall, link) or [None])[0] == node]
                    if not choices or random.random() < 0.03:
                        choices = links
                    if choices:
                        link = random.choice(choices)
                        chain.append(link)
                        node = (link_step(hall, link) or [0, node])[1]
                papers.append((start, chain))
            good = [paper for paper in papers if plain_paper(hall, first, second, high, paper)]
            for chosen in (papers, good, good + good[:1]):
                answer = check_call(self, accepts_sheaf, hall, first, second, high, chosen)
                self.assertEqual(answer, plain_accepts(hall, first, second, high, chosen))
                answers[answer] += 1
                if answer:
                    self.assertIsNotNone(sheaf(hall, first, second, high))
        self.assertGreater(min(answers.values()), 20)


class CounterTest(unittest.TestCase):
    def check_counter(self, hall, first, second, high):
        answer = check_call(self, counter, hall, first, second, high)
        if answer is None:
            return None
        lot, levels = answer
        self.assertIsInstance(answer, tuple)
        self.assertIn(lot, largest_of(hall))
        self.assertTrue(hall.fits(levels))
        self.assertLessEqual(set(hall.untrue(levels)), set(lot))
        self.assertGreater(difference(levels, first, second), high)
        self.assertEqual(levels, row_world(closed_table(hall.frame, rest_of(hall, lot)), first))
        return answer

    def test_answers(self):
        self.assertEqual(self.check_counter(FOURS, 0, 1, 3), ([2], [0, 4, 13]))
        self.assertIsNone(self.check_counter(FOURS, 0, 1, 4))
        self.assertEqual(self.check_counter(FOURS, 2, 2, -1)[0], [2])
        self.assertIsNone(self.check_counter(FOURS, 2, 2, 0))
        self.assertEqual(self.check_counter(Hall(ROW, []), 1, 2, 8), ([], [0, 0, 9]))

    def test_a_largest_lot_is_named(self):
        hall = Hall(ROW, [Claim(0, 1, 4, 4), Claim(0, 2)], doubt=Lots([[1, 7]]))
        self.assertEqual(self.check_counter(hall, 0, 1, 3)[0], [1])
        hall = Hall(ROW, [Claim(0, 1, 4, 4), Claim(0, 2)], doubt=AtMost(5))
        self.assertEqual(self.check_counter(hall, 0, 1, 3)[0], [0, 1])

    def test_against_a_plain_search(self):
        found = 0
        for random, hall, worlds in random_cases(41, 200, 6):
            first = random.randrange(hall.frame.size)
            second = random.randrange(hall.frame.size)
            for high in (random.randint(-5, 5), random.randint(-2, 8)):
                answer = self.check_counter(hall, first, second, high)
                broken = [levels for levels in worlds if difference(levels, first, second) > high]
                self.assertEqual(answer is None, not broken)
                found += answer is not None
        self.assertGreater(found, 50)


class LargerHallsTest(unittest.TestCase):
    def test_ten_claims(self):
        random = seeded(42)
        many = 0
        for _ in range(40):
            frame = wide_frame(random, 4)
            claims = []
            for _ in range(10):
                first, second = random.sample(range(4), 2)
                low = random.randint(-2, 1)
                claims.append(Claim(first, second, low, low + random.randint(0, 3), weight=random.randint(1, 9)))
            doubt = random.choice([AtMost(2), AtMost(4), Within(12), AtMost(3) & Within(14)])
            hall = Hall(frame, claims, doubt=doubt)
            worlds = fitting_worlds(hall, 6)
            highs = sorted({difference(levels, 1, 3) for levels in worlds}) or [0]
            SheafTest.check_sheaf(self, hall, 1, 3, highs[-1] - 1)
            papers = SheafTest.check_sheaf(self, hall, 1, 3, highs[-1])
            self.assertIsNotNone(papers)
            for start, chain in papers:
                self.assertIsNotNone(chain_end(frame, claims, start, chain))
            many += len(papers) > 2
            self.assertEqual(counter(hall, 1, 3, highs[-1]), None)
        self.assertGreater(many, 5)


if __name__ == "__main__":
    unittest.main()
