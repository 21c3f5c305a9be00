"""Points 30 to 34: differences in the fitting worlds."""

import unittest
from itertools import product

from counthall.claims import Claim
from counthall.doubts import AtMost, Lots, Within
from counthall.frames import Frame
from counthall.halls import Hall
from counthall.readings import row_frame, row_levels
from counthall.runs import Runs
from counthall.spans import hull, possible_values, span, standings, verdict
from tests.plain import (
    check_call, check_no_world, check_verdict, difference, fitting_worlds, greatest_differences, random_cases,
    seeded,
)

ROW = row_frame([9, 9])
FOURS = Hall(ROW, [Claim(0, 1, 4, 4), Claim(0, 1, 4, 4), Claim(0, 1, 7, 7)], doubt=AtMost(1))
APART = Hall(ROW, [Claim(0, 1, 1, 2), Claim(0, 1, 7, 8)], doubt=AtMost(1))
NOTHING = Hall(ROW, [Claim(0, 1, 4, 4), Claim(0, 1, 5, 5), Claim(0, 1, 7, 7)], doubt=AtMost(1))


class SpanTest(unittest.TestCase):
    def test_examples(self):
        self.assertEqual(check_call(self, span, FOURS, 0, 1), (4, 4))
        self.assertEqual(check_call(self, standings, FOURS), ["true", "true", "false"])

    def test_direction(self):
        self.assertEqual(check_call(self, span, APART, 0, 1), (1, 8))
        self.assertEqual(check_call(self, span, APART, 1, 0), (-8, -1))
        self.assertEqual(span(APART, 0, 2), (1, 17))
        self.assertEqual(span(APART, 1, 1), (0, 0))
        self.assertIsInstance(span(APART, 1, 1), tuple)

    def test_gaps(self):
        values = possible_values(APART, 0, 1)
        self.assertIsInstance(values, Runs)
        self.assertEqual(values.pairs, ((1, 2), (7, 8)))
        self.assertEqual(possible_values(APART, 1, 0).pairs, ((-8, -7), (-2, -1)))
        self.assertEqual(possible_values(APART, 0, 2).pairs, ((1, 17),))
        self.assertEqual(possible_values(APART, 2, 2).pairs, ((0, 0),))

    def test_neighbouring_runs_are_one(self):
        hall = Hall(ROW, [Claim(0, 1, 1, 2), Claim(0, 1, 3, 5)], doubt=AtMost(1))
        self.assertEqual(possible_values(hall, 0, 1).pairs, ((1, 5),))

    def test_the_empty_lot_alone_and_all_lots(self):
        claims = [Claim(0, 1, 2, 6), Claim(0, 1, 4, 9)]
        self.assertEqual(span(Hall(ROW, claims), 0, 1), (4, 6))
        self.assertEqual(span(Hall(ROW, claims, doubt=AtMost(2)), 0, 1), (0, 9))
        self.assertEqual(span(Hall(ROW, []), 0, 2), (0, 18))
        self.assertEqual(span(Hall(Frame(1, []), [], doubt=AtMost(3)), 0, 0), (0, 0))

    def test_weights_and_lots(self):
        claims = [Claim(0, 1, 2, 2, weight=3), Claim(0, 1, 4, 4), Claim(0, 1, 4, 4)]
        self.assertEqual(possible_values(Hall(ROW, claims, doubt=Within(2)), 0, 1).pairs, ((2, 2),))
        self.assertEqual(possible_values(Hall(ROW, claims, doubt=Within(3)), 0, 1).pairs, ((2, 2), (4, 4)))
        self.assertEqual(possible_values(Hall(ROW, claims, doubt=Lots([[0, 39]])), 0, 1).pairs, ((4, 4),))

    def test_no_world(self):
        for function in (span, possible_values, verdict):
            check_no_world(self, function, NOTHING, 0, 1)
            check_no_world(self, function, NOTHING, 1, 1)
        check_no_world(self, hull, NOTHING)
        check_no_world(self, standings, NOTHING)
        check_no_world(self, standings, Hall(ROW, [Claim(1, 1, 1)]))

    def test_against_a_plain_search(self):
        gaps = 0
        without = 0
        for _, hall, worlds in random_cases(31, 200):
            if not worlds:
                without += 1
                check_no_world(self, hull, hall)
                check_no_world(self, span, hall, 0, 0)
                check_no_world(self, possible_values, hall, 0, 0)
                continue
            table = check_call(self, hull, hall)
            self.assertEqual(table, greatest_differences(worlds))
            for first in range(hall.frame.size):
                for second in range(hall.frame.size):
                    found = {difference(levels, first, second) for levels in worlds}
                    answer = check_call(self, span, hall, first, second)
                    self.assertEqual(answer, (min(found), max(found)))
                    self.assertEqual(answer, (-table[second][first], table[first][second]))
                    values = possible_values(hall, first, second)
                    self.assertEqual([x for x in range(-15, 16) if x in values], sorted(found))
                    self.assertEqual(possible_values(hall, first, second).pairs, values.pairs)
                    gaps += values.gaps().size() > 0
        self.assertGreater(gaps, 5)
        self.assertGreater(without, 15)

    def test_exact_claims_against_a_plain_search(self):
        random = seeded(35)
        for _ in range(60):
            told = [random.randint(-9, 9) for _ in range(random.randint(1, 8))]
            count = random.randrange(len(told))
            hall = Hall(Frame(2, [(1, 0, -9, 9)]), [Claim(0, 1, x, x) for x in told], doubt=AtMost(count))
            found = [x for x in range(-9, 10) if len(told) - told.count(x) <= count]
            if not found:
                check_no_world(self, possible_values, hall, 0, 1)
                continue
            self.assertEqual(possible_values(hall, 0, 1).pairs, Runs([(x, x) for x in found]).pairs)
            self.assertEqual(span(hall, 0, 1), (found[0], found[-1]))


class HullTest(unittest.TestCase):
    def test_not_every_world_of_the_hull_fits(self):
        table = check_call(self, hull, APART)
        self.assertEqual(table, [[0, 8, 17], [-1, 0, 9], [-1, 0, 0]])
        self.assertFalse(APART.fits([0, 5, 9]))

    def test_one_lot(self):
        self.assertEqual(check_call(self, hull, Hall(row_frame([2, 3]), [Claim(0, 2, 4)])),
                         [[0, 2, 5], [-1, 0, 3], [-4, -2, 0]])

    def test_ways_over_a_third_node(self):
        for _, hall, worlds in random_cases(32, 80):
            if worlds:
                table = hull(hall)
                nodes = range(hall.frame.size)
                for i, j, k in product(nodes, repeat=3):
                    self.assertLessEqual(table[i][k], table[i][j] + table[j][k])


class VerdictTest(unittest.TestCase):
    def test_words(self):
        for low, high, word in [
            (None, None, "certain"), (1, 8, "certain"), (0, None, "certain"), (None, 8, "certain"),
            (2, 7, "open"), (None, 7, "open"), (2, None, "open"), (8, 99, "open"), (1, 1, "open"),
            (3, 6, "never"), (9, None, "never"), (None, 0, "never"), (5, 5, "never"),
            (8, 1, "never"), (2, 1, "never"), (10 ** 11, -10 ** 11, "never"), (-10 ** 11, 10 ** 11, "certain"),
        ]:
            answer = check_call(self, verdict, APART, 0, 1, low, high)
            self.assertEqual(answer[0], word, (low, high))

    def test_worlds(self):
        worlds = fitting_worlds(Hall(row_frame([3, 2]), [Claim(0, 1, 0, 1), Claim(0, 1, 3)], doubt=AtMost(1)), 6)
        hall = Hall(row_frame([3, 2]), [Claim(0, 1, 0, 1), Claim(0, 1, 3)], doubt=AtMost(1))
        for low in (None, *range(-1, 7)):
            for high in (None, *range(-1, 7)):
                answer = check_call(self, verdict, hall, 0, 2, low, high)
                check_verdict(self, answer, worlds, lambda levels: (
                    (low is None or low <= levels[2]) and (high is None or levels[2] <= high)
                ))

    def test_bounds_by_name(self):
        self.assertEqual(verdict(APART, 0, 1, high=8)[0], "certain")
        self.assertEqual(verdict(APART, 0, 1, low=9)[0], "never")
        self.assertEqual(verdict(APART, 0, 1)[0], "certain")
        self.assertIsNone(verdict(APART, 0, 1)[2])

    def test_one_node(self):
        self.assertEqual(verdict(APART, 2, 2, 0, 0)[0], "certain")
        self.assertEqual(verdict(APART, 2, 2, 1)[0], "never")
        self.assertEqual(verdict(APART, 2, 2, None, -1)[0], "never")

    def test_far_values(self):
        far = 10 ** 9
        hall = Hall(Frame(3, [(0, 1, -far, far), (1, 2, -far, far)]), [])
        word, supporting, opposing = check_call(self, verdict, hall, 0, 2, 2 * far, 2 * far)
        self.assertEqual((word, supporting), ("open", [0, far, 2 * far]))
        self.assertLess(opposing[2], 2 * far)

    def test_against_a_plain_search(self):
        for random, hall, worlds in random_cases(33, 200):
            first = random.randrange(hall.frame.size)
            second = random.randrange(hall.frame.size)
            if not worlds:
                check_no_world(self, verdict, hall, first, second, 1, 0)
                continue
            for _ in range(4):
                low = random.choice([None, random.randint(-5, 5)])
                high = random.choice([None, random.randint(-5, 5)])
                answer = check_call(self, verdict, hall, first, second, low, high)
                check_verdict(self, answer, worlds, lambda levels: (
                    (low is None or low <= difference(levels, first, second))
                    and (high is None or difference(levels, first, second) <= high)
                ))


class StandingsTest(unittest.TestCase):
    def test_open(self):
        self.assertEqual(check_call(self, standings, APART), ["open", "open"])
        self.assertEqual(standings(Hall(ROW, [])), [])

    def test_a_claim_that_always_or_never_holds(self):
        claims = [Claim(0, 1), Claim(1, 1, 0, 0), Claim(1, 1, 1), Claim(0, 1, 10), Claim(0, 2, 0, 18)]
        hall = Hall(ROW, claims, doubt=AtMost(2))
        self.assertEqual(check_call(self, standings, hall), ["true", "true", "false", "false", "true"])

    def test_the_same_claim_twice(self):
        claim = Claim(0, 1, 4, 4)
        hall = Hall(ROW, [claim, claim, Claim(0, 1, 5)], doubt=AtMost(1))
        self.assertEqual(standings(hall), ["true", "true", "false"])

    def test_against_a_plain_search(self):
        seen = set()
        for _, hall, worlds in random_cases(34, 200):
            if not worlds:
                check_no_world(self, standings, hall)
                continue
            words = check_call(self, standings, hall)
            self.assertEqual(len(words), len(hall.claims))
            for claim, word in zip(hall.claims, words):
                answers = {claim.holds(levels) for levels in worlds}
                self.assertEqual(word, {(True,): "true", (False,): "false"}.get(tuple(answers), "open"))
            seen.update(words)
        self.assertEqual(seen, {"true", "false", "open"})


class CallersListsTest(unittest.TestCase):
    def test_a_list_that_is_changed_later(self):
        claims = [Claim(0, 1, 1, 2), Claim(0, 1, 7, 8)]
        hall = Hall(ROW, claims, doubt=AtMost(1))
        claims[0] = Claim(0, 1, 0, 0)
        self.assertEqual(span(hall, 0, 1), (1, 8))
        world = verdict(hall, 0, 1, 1, 1)[1]
        self.assertEqual(world, row_levels([1, world[2] - 1]))


if __name__ == "__main__":
    unittest.main()
