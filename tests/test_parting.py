"""Points 76 to 78: how far worlds can part although both fit what is told."""

import unittest

from counthall.doubts import AtMost, Lots, Within
from counthall.parting import parting, parting_case
from counthall.plans import Plan, told_hall
from counthall.spans import span
from counthall.ties import borne, strength_tree, tied
from tests.plain import allowed_lots, check_call, difference, maximal, random_doubt, seeded, worlds_of

ROW = [(0, 1, 5), (1, 2, 3)]


def plain_shortest(size, edges, first, second):
    """The length of a shortest way along edges (one, other, length)."""
    lengths = {first: 0}
    for _ in range(size):
        for one, other, length in [*edges, *[(other, one, length) for one, other, length in edges]]:
            if one in lengths:
                lengths[other] = min(lengths.get(other, 10 ** 30), lengths[one] + length)
    return lengths[second]


def plain_length(plan, lot, other, first, second):
    """The width that is left without the askings of two lots."""
    staying = [asking[:3] for at, asking in enumerate(plan.askings) if at not in lot and at not in other]
    return plain_shortest(plan.size, [*plan.limits, *staying], first, second)


def plain_width(plan, doubt, first, second):
    """The greatest width by the first words of point 76, by a search through all pairs of worlds."""
    worlds = worlds_of(told_hall(plan, [(0, asking[2]) for asking in plan.askings], doubt).frame, 9)
    lots = allowed_lots(doubt, plan.weights)
    widest = 0
    for levels in worlds:
        for other in worlds:
            width = difference(other, first, second) - difference(levels, first, second)
            if width > widest:
                # Both can hold if some telling has both values, else at least one must be false.
                apart = {
                    at for at, (one, two, error, _) in enumerate(plan.askings)
                    if abs(difference(other, one, two) - difference(levels, one, two)) > error
                }
                if any(apart <= {*lot, *more} for lot in lots for more in lots):
                    widest = width
    return widest


def random_plan(random, errors=(0, 0, 1, 2), most_askings=4):
    size = random.randint(1, 4)
    limits = []
    for node in range(1, size):
        pair = [random.randrange(node), node]
        random.shuffle(pair)
        limits.append((*pair, random.randint(0, 3)))
    random.shuffle(limits)
    askings = [
        (random.randrange(size), random.randrange(size), random.choice(errors), random.randint(1, 4))
        for _ in range(random.randint(0, most_askings))
    ]
    return Plan(size, limits, askings)


class PartingTest(unittest.TestCase):
    def check_parting(self, plan, doubt, first, second):
        answer = check_call(self, parting, plan, doubt, first, second)
        self.assertIsInstance(answer, tuple)
        width, lot, other = answer
        lots = maximal(allowed_lots(doubt, plan.weights))
        self.assertIn(lot, lots)
        self.assertIn(other, lots)
        self.assertEqual(plain_length(plan, lot, other, first, second), width)
        lengths = [plain_length(plan, one, two, first, second) for one in lots for two in lots]
        self.assertEqual(max(lengths), width)
        self.check_case(plan, doubt, first, second, width)
        return width

    def check_case(self, plan, doubt, first, second, width):
        answer = check_call(self, parting_case, plan, doubt, first, second)
        self.assertIsInstance(answer, tuple)
        telling, levels, other = answer
        self.assertEqual(len(telling), len(plan.askings))
        for (low, high), asking in zip(telling, plan.askings):
            self.assertEqual(high, low + asking[2])
        self.assertTrue(all(isinstance(told, tuple) for told in telling))
        hall = told_hall(plan, telling, doubt)
        self.assertTrue(hall.fits(levels))
        self.assertTrue(hall.fits(other))
        self.assertEqual(difference(other, first, second) - difference(levels, first, second), width)

    def test_no_askings(self):
        plan = Plan(3, ROW, [])
        for doubt in (AtMost(0), AtMost(99), Within(5)):
            self.assertEqual(self.check_parting(plan, doubt, 0, 2), 8)
            self.assertEqual(self.check_parting(plan, doubt, 2, 1), 3)
        self.assertEqual(self.check_parting(Plan(1, [], []), AtMost(0), 0, 0), 0)

    def test_answers(self):
        plan = Plan(3, ROW, [(0, 2, 2, 1), (2, 0, 4, 1), (0, 1, 0, 1), (2, 1, 1, 1)])
        for count, width in [(0, 1), (1, 4), (2, 8), (3, 8), (4, 8)]:
            self.assertEqual(self.check_parting(plan, AtMost(count), 0, 2), width)
        for count, width in [(0, 0), (1, 5), (2, 5)]:
            self.assertEqual(self.check_parting(plan, AtMost(count), 1, 0), width)
        for limit, width in [(0, 1), (1, 4), (2, 8)]:
            self.assertEqual(self.check_parting(plan, Within(limit), 0, 2), width)

    def test_errors_of_nothing(self):
        plan = Plan(2, [(0, 1, 9)], [(0, 1, 0, 1)] * 3)
        self.assertEqual([self.check_parting(plan, AtMost(count), 0, 1) for count in range(4)], [0, 0, 9, 9])

    def test_the_same_two_nodes(self):
        plan = Plan(3, ROW, [(0, 2, 2, 1), (1, 1, 4, 1)])
        for doubt in (AtMost(0), AtMost(2), Lots([[0], [1]])):
            for node in range(3):
                self.assertEqual(self.check_parting(plan, doubt, node, node), 0)

    def test_all_askings_may_be_false_together(self):
        plan = Plan(3, ROW, [(0, 2, 2, 5), (1, 0, 1, 6)])
        for doubt in (AtMost(2), AtMost(99), Within(11), Lots([[0, 1]]), AtMost(1) | Lots([[1, 0, 39]])):
            self.assertEqual(self.check_parting(plan, doubt, 0, 2), 8)
            self.assertEqual(check_call(self, parting, plan, doubt, 0, 2)[1:], ([0, 1], [0, 1]))

    def test_two_lots_that_differ(self):
        plan = Plan(2, [(0, 1, 9)], [(0, 1, 1, 1), (0, 1, 2, 1), (1, 0, 3, 1), (0, 1, 4, 1)])
        self.assertEqual(self.check_parting(plan, Lots([[0, 1], [2]]), 0, 1), 4)
        lots = parting(plan, Lots([[0, 1], [2]]), 0, 1)[1:]
        self.assertEqual(sorted(lots), [[0, 1], [2]])
        self.assertEqual(self.check_parting(plan, Lots([[0, 1], [3]]), 0, 1), 3)
        self.assertEqual(self.check_parting(plan, Lots([[1, 2, 3]]), 0, 1), 1)
        self.assertEqual(self.check_parting(plan, Lots([]), 0, 1), 1)
        self.assertEqual(self.check_parting(plan, Lots([[17, 39]]), 0, 1), 1)

    def test_askings_about_one_node(self):
        plan = Plan(2, [(0, 1, 9)], [(1, 1, 0, 1), (0, 0, 5, 99), (0, 1, 2, 1)])
        self.assertEqual([self.check_parting(plan, AtMost(count), 0, 1) for count in range(3)], [2, 9, 9])

    def test_rooms_of_nothing(self):
        plan = Plan(3, [(0, 1, 0), (1, 2, 4)], [(2, 0, 1, 1)])
        self.assertEqual(self.check_parting(plan, AtMost(0), 1, 2), 1)
        self.assertEqual(self.check_parting(plan, AtMost(1), 1, 2), 4)
        self.assertEqual(self.check_parting(plan, AtMost(1), 0, 1), 0)

    def test_far_rooms(self):
        far = 10 ** 11
        plan = Plan(4, [(0, 1, far), (2, 1, far), (2, 3, far)], [(3, 0, far - 1, 9), (1, 3, 7, 8)])
        self.assertEqual(self.check_parting(plan, AtMost(0), 0, 3), far - 1)
        self.assertEqual(self.check_parting(plan, AtMost(1), 0, 3), 3 * far)
        self.assertEqual(self.check_parting(plan, Within(4), 3, 0), far - 1)

    def test_against_all_pairs_of_worlds(self):
        random = seeded(601)
        widths = []
        for _ in range(250):
            plan = random_plan(random)
            doubt = random.choice([AtMost(0), AtMost(1), random_doubt(random, 2), random_doubt(random, 3)])
            first, second = random.randrange(plan.size), random.randrange(plan.size)
            widths.append(self.check_parting(plan, doubt, first, second))
            self.assertEqual(plain_width(plan, doubt, first, second), widths[-1])
        self.assertGreater(len([width for width in widths if width]), 80)

    def test_no_told_hall_has_a_wider_span(self):
        random = seeded(602)
        for _ in range(60):
            plan = random_plan(random)
            doubt = random_doubt(random, 2)
            first, second = random.randrange(plan.size), random.randrange(plan.size)
            width = parting(plan, doubt, first, second)[0]
            telling = parting_case(plan, doubt, first, second)[0]
            low, high = span(told_hall(plan, telling, doubt), first, second)
            self.assertEqual(high - low, width)
            frame = told_hall(plan, telling, doubt).frame
            for levels in random.sample(worlds_of(frame, 9), 1) * 9:
                told = [difference(levels, one, two) - random.randint(0, error) for one, two, error, _ in plan.askings]
                told = [low + random.choice([0, 0, -1, 1]) for low in told]
                hall = told_hall(plan, [(low, low + asking[2]) for low, asking in zip(told, plan.askings)], doubt)
                if hall.fits(levels):
                    low, high = span(hall, first, second)
                    self.assertLessEqual(high - low, width)


class BorneTest(unittest.TestCase):
    def test_ways_over_askings_alone(self):
        random = seeded(603)
        known = {True: 0, False: 0}
        for _ in range(150):
            size = random.randint(1, 4)
            limits = [(random.randrange(node), node, random.randint(1, 3)) for node in range(1, size)]
            askings = [
                (random.randrange(size), random.randrange(size), 0, random.randint(1, 9))
                for _ in range(random.randint(0, 8))
            ]
            plan = Plan(size, limits, askings)
            ties = [(one, other, 1) for one, other, _, _ in askings]
            tree = strength_tree(size, ties)
            first, second = random.randrange(size), random.randrange(size)
            for count in range(4):
                width = parting(plan, AtMost(count), first, second)[0]
                ways = tied(size, ties, first, second)[0]
                self.assertEqual(width == 0, first == second or ways > 2 * count)
                if first != second:
                    self.assertEqual(width == 0, count <= borne(tree, first, second))
                known[width == 0] += 1
        self.assertGreater(min(known.values()), 100)


if __name__ == "__main__":
    unittest.main()
