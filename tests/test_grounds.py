"""Point 47: results, their grounds, and what speaks against them."""

import unittest

from counthall.claims import Claim
from counthall.doubts import AtMost, Lots
from counthall.frames import Frame
from counthall.grounds import against, grounds, holds_in
from counthall.halls import Hall
from counthall.holders import rank_range, shortfall, sum_range
from counthall.readings import count_claim, lead_claim, stand_frame
from counthall.seatranges import seat_range
from counthall.seats import divide
from counthall.sheaves import sheaf
from tests.plain import allowed_lots, check_call, largest_of, random_cases, worlds_of, worlds_with

STAND = Hall(stand_frame([9, 9, 9]), [count_claim(0, 5, 6), count_claim(1, 3, 5), count_claim(2, 0, 2)])
DOUBTED = Hall(STAND.frame, [*STAND.claims, count_claim(0, 5, 9)], doubt=AtMost(1))
NOTHING = Hall(stand_frame([9, 9]), [count_claim(0, 5, 6), count_claim(0, 3, 4)])


def plain_holds(result, levels):
    """Whether a result holds in a world, as the point says it."""
    kind, rest = result[0], result[1:]
    if kind == "rank":
        holders, node, places = rest
        return 1 + sum(levels[other] > levels[node] for other in holders) <= places
    if kind == "sum":
        return sum(levels[node] for node in rest[0]) <= rest[1]
    if kind == "reaches":
        group, node, lead = rest
        return max((levels[other] for other in group), default=-10 ** 12) >= levels[node] + lead
    holders, node, seats, step, least = rest
    places = list(holders)
    return divide([levels[other] for other in places], seats, step=step)[places.index(node)] >= least


def random_result(random, size):
    nodes = random.sample(range(size), random.randint(1, size))
    node = random.choice(nodes)
    return random.choice([
        ("rank", nodes, node, random.randint(1, len(nodes))),
        ("sum", random.choice([nodes, []]), random.randint(-4, 8)),
        ("reaches", random.sample(range(size), random.randint(0, size)), random.randrange(size), random.randint(-4, 2)),
        ("seats", nodes, node, random.randint(0, 6), random.randint(1, 9), random.randint(0, 4)),
    ])


class HoldsInTest(unittest.TestCase):
    def check_holds(self, result, levels, answer):
        self.assertIs(check_call(self, holds_in, result, levels), answer)
        self.assertIs(plain_holds(result, levels), answer)

    def test_rank(self):
        levels = [0, 4, 7, 4, 1]
        for node, places, answer in [
            (2, 1, True), (1, 1, False), (1, 2, True), (3, 2, True), (4, 3, False), (4, 4, True), (2, 0, False),
        ]:
            self.check_holds(("rank", [1, 2, 3, 4], node, places), levels, answer)
        self.check_holds(("rank", [4], 4, 1), levels, True)

    def test_sum(self):
        self.check_holds(("sum", [1, 2], 11), [0, 4, 7], True)
        self.check_holds(("sum", [1, 2], 10), [0, 4, 7], False)
        self.check_holds(("sum", [], 0), [0, 4, 7], True)
        self.check_holds(("sum", [], -1), [0, 4, 7], False)

    def test_reaches(self):
        self.check_holds(("reaches", [1, 2], 3, 0), [0, 4, 7, 7], True)
        self.check_holds(("reaches", [1, 2], 3, 1), [0, 4, 7, 7], False)
        self.check_holds(("reaches", [1], 3, -3), [0, 4, 7, 7], True)
        self.check_holds(("reaches", [1], 3, -2), [0, 4, 7, 7], False)
        self.check_holds(("reaches", [3], 3, 0), [0, 4, 7, 7], True)
        self.check_holds(("reaches", [], 3, -10 ** 11), [0, 4, 7, 7], False)

    def test_seats(self):
        for node, least, answer in [(1, 3, True), (1, 4, False), (2, 1, True), (3, 1, False), (3, 0, True)]:
            self.check_holds(("seats", [1, 2, 3], node, 4, 1, least), [0, 10, 6, 3], answer)
        self.check_holds(("seats", [3, 2, 1], 3, 4, 2, 1), [0, 10, 6, 3], True)
        self.check_holds(("seats", [2, 1], 2, 1, 1, 1), [0, 5, 5], True)
        self.check_holds(("seats", [1, 2], 2, 1, 1, 1), [0, 5, 5], False)
        self.check_holds(("seats", [1, 2], 2, 0, 1, 1), [0, 5, 5], False)


class GroundsTest(unittest.TestCase):
    def check_result(self, hall, result, reach=6):
        """Ask for grounds and for what speaks against a result, and check all that the point says."""
        sets = check_call(self, grounds, hall, result)
        answer = check_call(self, against, hall, result)
        every = worlds_of(hall.frame, reach)
        broken = [levels for levels in every if hall.fits(levels) and not plain_holds(result, levels)]
        self.assertEqual(sets is None, bool(broken))
        self.assertEqual(answer is None, not broken)
        if broken:
            self.assertIsInstance(answer, tuple)
            lot, levels = answer
            self.assertIn(lot, largest_of(hall))
            self.assertIn(levels, broken)
            self.assertLessEqual(set(hall.untrue(levels)), set(lot))
            return None
        self.check_grounds(hall, result, sets, every)
        return sets

    def check_grounds(self, hall, result, sets, every):
        def carries(chosen):
            worlds = worlds_with(every, [hall.claims[index] for index in chosen])
            return all(plain_holds(result, levels) for levels in worlds)

        allowed = allowed_lots(hall.doubt, hall.weights)
        self.assertEqual(len({tuple(chosen) for chosen in sets}), len(sets))
        for chosen in sets:
            self.assertEqual(chosen, sorted(set(chosen)))
            self.assertTrue(carries(chosen))
            for index in chosen:
                self.assertFalse(carries([other for other in chosen if other != index]))
        for lot in allowed:
            self.assertFalse(all(set(lot) & set(chosen) for chosen in sets))
        for left_out in sets:
            others = [chosen for chosen in sets if chosen != left_out]
            self.assertTrue(any(all(set(lot) & set(chosen) for chosen in others) for lot in allowed))

    def test_ranks(self):
        self.assertEqual(self.check_result(STAND, ("rank", [1, 2, 3], 1, 1), 9), [[0, 1, 2]])
        self.assertEqual(self.check_result(STAND, ("rank", [1, 2, 3], 1, 2), 9), [[0, 2]])
        self.assertEqual(self.check_result(STAND, ("rank", [1, 2], 1, 1), 9), [[0, 1]])
        self.assertIsNone(self.check_result(STAND, ("rank", [1, 2, 3], 2, 1), 9))
        self.assertIsNone(self.check_result(DOUBTED, ("rank", [1, 2], 1, 1), 9))
        self.check_result(DOUBTED, ("rank", [3, 1, 2], 1, 2), 9)

    def test_a_result_that_always_holds(self):
        for result in [
            ("rank", [1, 2, 3], 2, 3), ("sum", [1, 2, 3], 27), ("sum", [], 0), ("reaches", [2], 2, 0),
            ("reaches", [1], 2, -9), ("seats", [1, 2, 3], 1, 5, 1, 0),
        ]:
            self.assertEqual(check_call(self, grounds, DOUBTED, result), [[]])
            self.assertIsNone(check_call(self, against, DOUBTED, result))

    def test_a_result_that_never_holds(self):
        for result in [
            ("rank", [1, 2, 3], 2, 0), ("sum", [1], -1), ("sum", [], -1), ("reaches", [2], 2, 1),
            ("reaches", [], 2, -99), ("seats", [1, 2, 3], 1, 5, 1, 6), ("seats", [1], 1, 0, 1, 1),
        ]:
            self.assertIsNone(check_call(self, grounds, DOUBTED, result))
            lot, levels = check_call(self, against, DOUBTED, result)
            self.assertIn(lot, [[0], [1], [2], [3]])
            self.assertTrue(DOUBTED.fits(levels))

    def test_several_sets(self):
        claims = [count_claim(0, 5, 6), count_claim(0, 4, 6), count_claim(1, 3, 4), count_claim(1, 2, 4)]
        hall = Hall(stand_frame([9, 9]), claims, doubt=AtMost(1))
        sets = self.check_result(hall, ("sum", [1, 2], 10), 9)
        self.assertEqual(len(sets), 2)
        self.check_result(hall, ("rank", [1, 2], 1, 1), 9)
        self.check_result(hall, ("seats", [2, 1], 1, 3, 1, 1), 9)

    def test_seats(self):
        self.assertEqual(self.check_result(STAND, ("seats", [1, 2, 3], 1, 7, 1, 3), 9), [[0, 1, 2]])
        self.assertIsNone(self.check_result(STAND, ("seats", [1, 2, 3], 1, 7, 1, 4), 9))
        self.check_result(Hall(STAND.frame, STAND.claims, doubt=Lots([[1]])), ("seats", [1, 2], 1, 6, 2, 2), 9)

    def test_no_world_fits(self):
        for result in [
            ("rank", [1, 2], 1, 0), ("sum", [1], -99), ("reaches", [], 1, 0), ("seats", [1, 2], 2, 3, 1, 4),
        ]:
            self.assertEqual(check_call(self, grounds, NOTHING, result), [[0, 1]])
            self.assertIsNone(check_call(self, against, NOTHING, result))
        three = Hall(NOTHING.frame, [*NOTHING.claims, count_claim(0, 8)], doubt=AtMost(1))
        self.assertEqual(len(self.check_result(three, ("sum", [1], -1), 9)), 3)

    def test_no_claims(self):
        hall = Hall(stand_frame([4, 4]), [], doubt=AtMost(3))
        self.assertEqual(self.check_result(hall, ("sum", [1, 2], 8)), [[]])
        self.assertIsNone(self.check_result(hall, ("sum", [1, 2], 7)))
        self.assertEqual(grounds(Hall(Frame(1, []), []), ("rank", [0], 0, 1)), [[]])

    def test_reaches_over_a_group(self):
        claims = [lead_claim(0, 2, 0), lead_claim(1, 2, 0)]
        hall = Hall(stand_frame([5, 5, 5]), claims, doubt=AtMost(1))
        self.assertEqual(self.check_result(hall, ("reaches", [1, 2], 3, 0)), [[0], [1]])
        self.assertIsNone(self.check_result(hall, ("reaches", [1], 3, 0)))

    def test_against_a_plain_search(self):
        kinds = {}
        for random, hall, worlds in random_cases(51, 250, 5):
            result = random_result(random, hall.frame.size)
            sets = self.check_result(hall, result)
            many = -1 if sets is None else min(len(sets), 2)
            kinds[(result[0], many)] = kinds.get((result[0], many), 0) + 1
            if worlds and result[0] == "rank":
                self.assertEqual(sets is not None, rank_range(hall, result[1], result[2])[1] <= result[3])
            if worlds and result[0] == "sum":
                self.assertEqual(sets is not None, sum_range(hall, result[1])[1] <= result[2])
                if len(result[1]) == 1:
                    self.assertEqual(sets is None, sheaf(hall, 0, result[1][0], result[2]) is None)
            if worlds and result[0] == "reaches":
                self.assertEqual(sets is not None, shortfall(hall, *result[1:]) is None)
            if worlds and result[0] == "seats":
                least = seat_range(hall, result[1], result[2], result[3], step=result[4])[0]
                self.assertEqual(sets is not None, least >= result[5])
        for kind in ("rank", "sum", "reaches", "seats"):
            self.assertGreater(kinds[(kind, -1)], 5)
            self.assertGreater(kinds[(kind, 1)], 5)

    def test_doubled_claims(self):
        several = 0
        for random, hall, _ in random_cases(52, 120, 3, (2, 3)):
            doubt = random.choice([AtMost(1), Lots([[0, 1], [3]])])
            doubled = Hall(hall.frame, [*hall.claims, *hall.claims], doubt=doubt)
            sets = self.check_result(doubled, random_result(random, hall.frame.size))
            several += sets is not None and len(sets) > 1
        self.assertGreater(several, 5)

    def test_every_least_carrier_is_found_if_all_are_needed(self):
        hall = Hall(stand_frame([9]), [Claim(0, 1, None, 4)] * 3, doubt=AtMost(2))
        self.assertEqual(sorted(self.check_result(hall, ("sum", [1], 4), 9)), [[0], [1], [2]])


if __name__ == "__main__":
    unittest.main()
