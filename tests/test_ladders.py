"""Points 50 and 51: ladders and least clashes."""

import unittest

from counthall.estimates import fused, heaviest
from counthall.ladders import accepts_ladders, ladders, least_clash
from tests.plain import check_call, random_estimates, seeded, subsets

THREE = [(1, 4, 1), (3, 6, 1), (8, 9, 1)]


def plain_accepts(estimates, rows):
    for row in rows:
        if len(row) == 0 or any(index < 0 or index >= len(estimates) for index in row):
            return False
        if any(estimates[after][0] <= estimates[before][1] for before, after in zip(row, row[1:])):
            return False
    return all(sum(index in row for row in rows) == estimates[index][2] for index in range(len(estimates)))


def plain_clashes(estimates, chosen, count):
    """Whether each integer from -20 to 20 is missing in more than count of the chosen estimates."""
    return all(
        sum(not estimates[index][0] <= value <= estimates[index][1] for index in chosen) > count
        for value in range(-20, 21)
    )


class LaddersTest(unittest.TestCase):
    def check_ladders(self, estimates):
        rows = check_call(self, ladders, estimates)
        self.assertTrue(plain_accepts(estimates, rows))
        self.assertIs(check_call(self, accepts_ladders, estimates, rows), True)
        self.assertEqual(len(rows), heaviest(estimates)[0])
        return rows

    def test_answers(self):
        self.assertEqual(sorted(self.check_ladders(THREE)), [[0, 2], [1]])
        self.assertEqual(self.check_ladders([]), [])
        self.assertEqual(self.check_ladders([(5, 5, 3)]), [[0], [0], [0]])

    def test_bounds_that_touch(self):
        self.assertEqual(len(self.check_ladders([(1, 3, 1), (3, 5, 1)])), 2)
        self.assertEqual(self.check_ladders([(4, 5, 1), (1, 3, 1)]), [[1, 0]])
        self.assertEqual(len(self.check_ladders([(1, 3, 9), (4, 5, 9), (6, 6, 9)])), 9)

    def test_random_estimates(self):
        random = seeded(58)
        for _ in range(300):
            self.check_ladders([(low, high, min(weight, 9)) for low, high, weight in random_estimates(random, 8)])

    def test_forty_estimates(self):
        random = seeded(59)
        for length in (0, 3, 20, 60):
            lows = [random.randint(-50, 50) for _ in range(40)]
            self.check_ladders([(low, low + random.randint(0, length), random.randint(1, 9)) for low in lows])


class AcceptsLaddersTest(unittest.TestCase):
    def check_answer(self, estimates, rows, answer):
        self.assertIs(check_call(self, accepts_ladders, estimates, rows), answer)
        self.assertEqual(plain_accepts(estimates, rows), answer)

    def test_answers(self):
        for rows, answer in [
            ([[0, 2], [1]], True), ([[1], [0, 2]], True), ([[0], [1], [2]], True), ([[1, 2], [0]], True),
            ([[0, 2]], False), ([], False), ([[0, 2], [1], []], False), ([[0, 2], [1], [1]], False),
            ([[2, 0], [1]], False), ([[0, 1], [2]], False), ([[0, 2, 2], [1]], False), ([[0, 0], [1], [2]], False),
            ([[0, 2], [1, 3]], False), ([[0, -1], [1]], False), ([[0, 2], [1], [-1]], False), ([[0, 1, 2]], False),
            ([[0, 2], [-2]], False), ([[0, 2], [1], [10 ** 11]], False), ([[3]], False), ([[]], False),
        ]:
            self.check_answer(THREE, rows, answer)

    def test_no_estimates(self):
        self.check_answer([], [], True)
        self.check_answer([], [[]], False)
        self.check_answer([], [[0]], False)

    def test_weights(self):
        estimates = [(1, 2, 2), (3, 4, 1)]
        for rows, answer in [
            ([[0, 1], [0]], True), ([[0], [0], [1]], True), ([[0, 1]], False), ([[0, 1], [0], [0]], False),
            ([[0, 1], [0, 1]], False), ([[0], [0, 1]], True), ([[1, 0], [0]], False),
        ]:
            self.check_answer(estimates, rows, answer)

    def test_bounds_that_touch(self):
        self.check_answer([(1, 3, 1), (3, 5, 1)], [[0, 1]], False)
        self.check_answer([(1, 3, 1), (3, 5, 1)], [[1], [0]], True)
        self.check_answer([(1, 3, 1), (4, 5, 1)], [[0, 1]], True)
        self.check_answer([(3, 3, 1), (3, 3, 1)], [[0, 1]], False)

    def test_random_rows(self):
        random = seeded(60)
        answers = {True: 0, False: 0}
        for _ in range(300):
            estimates = random_estimates(random, 4, 3)
            rows = ladders(estimates)
            for _ in range(random.randrange(3)):
                change = random.randrange(4)
                if change == 0 and rows:
                    random.shuffle(random.choice(rows))
                elif change == 1 and rows and rows[-1]:
                    rows.append([rows[-1].pop()])
                elif change == 2:
                    rows.append([random.randint(-1, len(estimates))])
                elif rows:
                    rows.remove(random.choice(rows))
            answer = plain_accepts(estimates, rows)
            self.check_answer(estimates, rows, answer)
            answers[answer] += 1
        self.assertGreater(min(answers.values()), 30)


class LeastClashTest(unittest.TestCase):
    def check_clash(self, estimates, count):
        answer = check_call(self, least_clash, estimates, count)
        everything = list(range(len(estimates)))
        if not plain_clashes(estimates, everything, count):
            self.assertIsNone(answer)
            return None
        kept = everything
        for index in reversed(everything):
            fewer = [other for other in kept if other != index]
            if plain_clashes(estimates, fewer, count):
                kept = fewer
        self.assertEqual(answer, kept)
        self.assertGreaterEqual(len(answer), count + 2)
        self.assertLessEqual(len(answer), 2 * count + 2)
        self.assertEqual(fused([estimates[index] for index in answer], count).pairs, ())
        return answer

    def test_answers(self):
        self.assertEqual(self.check_clash(THREE, 0), [0, 2])
        self.assertIsNone(self.check_clash(THREE, 1))
        self.assertIsNone(self.check_clash([], 0))
        self.assertIsNone(self.check_clash([(1, 1, 1)], 0))

    def test_sets_at_both_ends_of_the_size(self):
        for count in range(5):
            apart = [(index, index, 1) for index in range(count + 2)]
            self.assertEqual(self.check_clash(apart, count), list(range(count + 2)))
            self.assertIsNone(self.check_clash(apart[1:], count))
            pairs = [(index % 2, index % 2, 1) for index in range(2 * count + 2)]
            self.assertEqual(self.check_clash(pairs, count), list(range(2 * count + 2)))
            self.assertIsNone(self.check_clash(pairs[1:], count))

    def test_later_indexes_are_left_out_first(self):
        self.assertEqual(self.check_clash([(1, 1, 1), (2, 2, 1), (3, 3, 1)], 0), [0, 1])
        self.assertEqual(self.check_clash([(1, 1, 1), (1, 1, 1), (3, 3, 1), (4, 4, 1)], 0), [0, 2])

    def test_weights_have_no_influence(self):
        self.assertEqual(self.check_clash([(1, 4, 99), (3, 6, 5), (8, 9, 1)], 0), [0, 2])

    def test_no_other_part_clashes(self):
        random = seeded(61)
        for _ in range(150):
            estimates = random_estimates(random, 7)
            count = random.randrange(3)
            answer = self.check_clash(estimates, count)
            if answer is not None:
                for part in subsets(len(answer)):
                    if len(part) < len(answer):
                        self.assertFalse(plain_clashes(estimates, [answer[at] for at in part], count))

    def test_twenty_estimates(self):
        random = seeded(62)
        found = 0
        for count in range(6):
            lows = [random.randint(-15, 10) for _ in range(20)]
            found += self.check_clash([(low, low + random.randint(0, 9), 1) for low in lows], count) is not None
        self.assertGreater(found, 3)


if __name__ == "__main__":
    unittest.main()
