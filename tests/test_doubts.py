"""Points 16 and 17: doubts."""

import unittest

from counthall.doubts import AtMost, Both, Doubt, Either, Lots, Within
from counthall.errors import InvalidDoubt
from tests.plain import check_part, random_doubt, seeded, subsets

WEIGHTS = [2, 1, 2, 5]


def allowed(doubt):
    return [lot for lot in subsets(4) if doubt.allows(lot, WEIGHTS)]


class SimpleDoubtTest(unittest.TestCase):
    def test_classes(self):
        for name in (AtMost, Within, Lots, Both, Either):
            self.assertTrue(issubclass(name, Doubt))
            self.assertIn("allows", vars(name))

    def test_at_most(self):
        self.assertEqual(AtMost(2).count, 2)
        self.assertEqual(allowed(AtMost(0)), [[]])
        self.assertEqual(allowed(AtMost(1)), [[], [0], [1], [2], [3]])
        self.assertEqual(allowed(AtMost(99)), subsets(4))

    def test_within(self):
        self.assertEqual(Within(3).limit, 3)
        self.assertEqual(allowed(Within(0)), [[]])
        self.assertEqual(allowed(Within(3)), [[], [0], [1], [2], [0, 1], [1, 2]])
        self.assertEqual(allowed(Within(10)), subsets(4))
        self.assertEqual(len(allowed(Within(9))), 15)

    def test_lots(self):
        doubt = Lots([[2, 0], (3,), [0, 2]])
        self.assertEqual(doubt.lots, ((0, 2), (3,)))
        self.assertEqual(allowed(doubt), [[], [0], [2], [3], [0, 2]])
        self.assertEqual(Lots(((2, 0), (3,))).lots, ((0, 2), (3,)))

    def test_empty_lots(self):
        self.assertEqual(Lots([]).lots, ())
        self.assertEqual(Lots([[]]).lots, ((),))
        self.assertEqual(allowed(Lots([])), [[]])
        self.assertEqual(allowed(Lots([[]])), [[]])
        self.assertTrue(Lots([]).allows([], []))

    def test_numbers_that_name_no_claim(self):
        self.assertEqual(allowed(Lots([[1, 39], [20]])), [[], [1]])

    def test_lot_in_any_order_or_as_a_tuple(self):
        for doubt in (AtMost(2), Within(4), Lots([[0, 2]]), AtMost(2) & Within(4), AtMost(0) | Lots([[2, 0]])):
            self.assertIs(doubt.allows([2, 0], WEIGHTS), True)
            self.assertIs(doubt.allows((0, 2), tuple(WEIGHTS)), True)
            self.assertIs(doubt.allows([3, 0, 1], WEIGHTS), False)

    def test_errors(self):
        for count in (-1, 100):
            check_part(self, InvalidDoubt, "count", AtMost, count)
        for limit in (-1, 10 ** 6 + 1):
            check_part(self, InvalidDoubt, "limit", Within, limit)
        self.assertEqual(Within(10 ** 6).limit, 10 ** 6)
        for lots in ([[40]], [[-1]], [[1, 1]], [[0], [1, 2, 1]], [[0]] * 25, [[]] * 25):
            check_part(self, InvalidDoubt, "lots", Lots, lots)
        self.assertEqual(Lots([[0, 39]] * 24).lots, ((0, 39),))

    def test_caller_changes_its_lists(self):
        lots = [[1], [0, 2]]
        doubt = Lots(lots)
        self.assertEqual(lots, [[1], [0, 2]])
        lots[0].append(3)
        lots.append([0, 1, 2, 3])
        self.assertEqual(doubt.lots, ((0, 2), (1,)))
        self.assertEqual(allowed(doubt), [[], [0], [1], [2], [0, 2]])


class JoinedDoubtTest(unittest.TestCase):
    def test_both_and_either(self):
        first, second = Within(3), Lots([[0, 1], [3]])
        both, either = first & second, first | second
        self.assertIs(type(both), Both)
        self.assertIs(type(either), Either)
        for joined in (both, either):
            self.assertIs(joined.first, first)
            self.assertIs(joined.second, second)
        self.assertEqual(allowed(both), [[], [0], [1], [0, 1]])
        self.assertEqual(allowed(either), [[], [0], [1], [2], [3], [0, 1], [1, 2]])
        self.assertEqual(allowed(Both(first, second)), allowed(both))
        self.assertEqual(allowed(Either(first, second)), allowed(either))

    def test_joined_to_itself(self):
        doubt = AtMost(1)
        self.assertEqual(allowed(doubt & doubt), allowed(doubt))
        self.assertEqual(allowed(doubt | doubt), allowed(doubt))

    def test_three_deep(self):
        pair = (AtMost(1) | Lots([[0, 1, 2]])) & (Within(4) | AtMost(0))
        self.assertEqual(allowed(pair), [[], [0], [1], [2], [0, 1], [0, 2], [1, 2]])
        deep = pair | (Lots([[3]]) & AtMost(3) | Within(1))
        self.assertEqual(allowed(deep), [[], [0], [1], [2], [3], [0, 1], [0, 2], [1, 2]])

    def test_parts_of_allowed_lots_are_allowed(self):
        random = seeded(17)
        for _ in range(60):
            first, second = random_doubt(random, 2), random_doubt(random, 2)
            weights = [random.randint(1, 5) for _ in range(5)]
            for lot in subsets(5):
                one, other = first.allows(lot, weights), second.allows(lot, weights)
                self.assertEqual((first & second).allows(lot, weights), one and other)
                self.assertEqual((first | second).allows(lot, weights), one or other)
                if one:
                    self.assertTrue(all(first.allows(lot[:at] + lot[at + 1:], weights) for at in range(len(lot))))
            self.assertTrue(first.allows([], weights))


if __name__ == "__main__":
    unittest.main()
