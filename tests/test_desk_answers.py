"""Points 92 to 94: the hall of a desk and the answers about it."""

import unittest

from counthall.desk import Desk
from counthall.doubts import AtMost, Both, Either, Lots, Within
from counthall.errors import NoWorld
from counthall.fitting import least_lots
from counthall.frames import Frame
from counthall.holders import rank_range
from counthall.readings import row_frame
from counthall.settling import cheapest_settling
from counthall.sheaves import accepts_sheaf, sheaf
from counthall.spans import span, standings, verdict
from counthall.texts import format_doubt, format_hall
from tests.plain import check_call, difference, random_doubt, seeded, subsets, wide_frame, worlds_of
from tests.test_desk import do_deed, history, random_desks

ROW = row_frame([9, 9])


def hall_doubt(desk):
    return format_doubt(desk.hall().doubt)


def fitting_of(desk, worlds):
    """The fitting worlds of a desk by its entries and its doubt, in which numbers are those of entries."""
    weights = [0] * 40
    for row in desk.standing():
        if row[1] == "claim":
            weights[row[0]] = row[6]
    found = []
    for levels in worlds:
        untrue = []
        possible = True
        for number, kind, first, second, *told in desk.standing():
            value = difference(levels, first, second)
            if kind == "recount":
                possible = possible and value == told[0]
            elif told[0] is not None and value < told[0] or told[1] is not None and value > told[1]:
                untrue.append(number)
        if possible and desk.doubt.allows(untrue, weights):
            found.append(levels)
    return found


def answer_of(function, *arguments):
    try:
        return function(*arguments)
    except NoWorld:
        return "no world"


def told_desks(number, many, doubt_of=None):
    """Desks with much room, whose claims mostly follow one of two worlds, and all worlds of their frames."""
    random = seeded(number)
    for _ in range(many):
        frame = wide_frame(random, random.choice([2, 3, 3, 4]))
        worlds = worlds_of(frame, 6)
        pair = random.choices(worlds, k=2)
        doubt = doubt_of(random) if doubt_of else random.choice([
            AtMost(1), AtMost(2), Within(5), random_doubt(random, 2), Lots([[0, 2, 4], [1, 3, 5]]),
            Lots([[0, 1, 2], [3, 4], [7]]) | AtMost(1),
        ])
        desk = Desk(frame, doubt=doubt)
        for _ in range(random.randint(0, 8)):
            side = random.randrange(2)
            first, second = random.sample(range(frame.size), 2)
            value = difference(pair[side], first, second)
            if random.random() < 0.2 and not desk.standing():
                desk.recount(first, second, value)
                continue
            bounds = random.choice([(value, value), (value, value + 1), (value, None), (None, value)])
            desk.tell(first, second, *bounds, weight=random.randint(1, 4))
        for entry in desk.standing():
            if random.random() < 0.15:
                desk.withdraw(entry[0])
        yield random, desk, worlds


class HallTest(unittest.TestCase):
    def test_an_empty_desk(self):
        self.assertEqual(format_hall(Desk(ROW).hall()), "nodes 3\nrule 0 1 0 9\nrule 1 2 0 9\ndoubt most 0")

    def test_rules_and_claims(self):
        desk = Desk(ROW, doubt=AtMost(1))
        desk.tell(0, 1, 4, weight=7)
        desk.recount(0, 2, 9)
        desk.tell(2, 2, None, 5)
        desk.recount(1, 0, -4)
        desk.tell(1, 2)
        desk.correct(4, 3, 3)
        self.assertEqual(format_hall(desk.hall()), "\n".join([
            "nodes 3", "rule 0 1 0 9", "rule 1 2 0 9", "rule 0 2 9 9", "rule 1 0 -4 -4", "claim 0 1 4 any weight 7",
            "claim 2 2 any 5 weight 1", "claim 1 2 3 3 weight 1", "doubt most 1",
        ]))
        desk.withdraw(0)
        desk.withdraw(1)
        self.assertEqual(format_hall(desk.hall()), "\n".join([
            "nodes 3", "rule 0 1 0 9", "rule 1 2 0 9", "rule 1 0 -4 -4", "claim 2 2 any 5 weight 1",
            "claim 1 2 3 3 weight 1", "doubt most 1",
        ]))

    def test_numbers_of_a_doubt(self):
        desk = Desk(ROW, doubt=Lots([[0, 3], [2, 3, 39], [1], [4, 5]]))
        self.assertEqual(hall_doubt(desk), "lots -")
        for number in range(5):
            desk.tell(0, 1) if number != 1 else desk.recount(0, 1, 4)
        # The claims 0, 2, 3 and 4 have the indexes 0 to 3, and entry 1 is a recount.
        self.assertEqual(hall_doubt(desk), "lots -/0,2/1,2/3")
        self.assertEqual(format_doubt(desk.doubt), "lots 0,3/1/2,3,39/4,5")
        desk.withdraw(0)
        self.assertEqual(hall_doubt(desk), "lots -/0,1/1/2")
        desk.withdraw(2)
        self.assertEqual(hall_doubt(desk), "lots -/0/1")
        desk.undo()
        self.assertEqual(hall_doubt(desk), "lots -/0,1/1/2")
        desk.set_doubt(Lots([]))
        self.assertEqual(hall_doubt(desk), "lots none")
        desk.set_doubt(Lots([[]]))
        self.assertEqual(hall_doubt(desk), "lots -")

    def test_numbers_of_joined_doubts(self):
        desk = Desk(ROW)
        for _ in range(3):
            desk.tell(0, 1)
        desk.withdraw(0)
        desk.set_doubt(Either(Both(Lots([[0, 2], [1]]), AtMost(3)), Both(Within(9), Either(Lots([[2]]), Lots([[0]])))))
        self.assertEqual(hall_doubt(desk), "either both lots 0/1 most 3 both within 9 either lots 1 lots -")
        self.assertEqual(
            format_doubt(desk.doubt), "either both lots 0,2/1 most 3 both within 9 either lots 2 lots 0",
        )

    def test_what_the_doubt_allows(self):
        random = seeded(671)
        for desk, _ in random_desks(random, 60):
            hall = desk.hall()
            numbers = desk.numbers()
            weights = [0] * 40
            for number, weight in zip(numbers, hall.weights):
                weights[number] = weight
            for lot in subsets(min(6, len(numbers))):
                allowed = desk.doubt.allows([numbers[index] for index in lot], weights)
                self.assertEqual(hall.doubt.allows(lot, hall.weights), allowed)


class AnswersTest(unittest.TestCase):
    def test_one_desk(self):
        desk = Desk(ROW, doubt=AtMost(1))
        for low in (4, 4, 7):
            desk.tell(0, 1, low, low)
        self.assertEqual(desk.standings(), [(0, "true"), (1, "true"), (2, "false")])
        self.assertEqual(desk.span(0, 1), (4, 4))
        self.assertEqual(desk.span(2, 0), (-13, -4))
        self.assertEqual(desk.verdict(0, 1, 4, 4), "certain")
        self.assertEqual(desk.verdict(0, 2, 5), "open")
        self.assertEqual(desk.verdict(0, 1, None, 3), "never")
        self.assertEqual(desk.verdict(0, 1, high=4, low=5), "never")
        self.assertEqual(desk.verdict(0, 1), "certain")
        self.assertEqual(desk.least_lots(), [[2]])
        self.assertEqual(desk.ranks([2, 1, 0]), [(2, 1, 1), (1, 1, 2), (0, 3, 3)])
        self.assertEqual(desk.settle(0, 2, 9, [(0, 1, 1), (1, 2, 4), (0, 2, 4)]), (4, 1))
        self.assertIsNone(desk.settle(0, 2, 9, []))
        desk.withdraw(1)
        self.assertEqual(desk.span(0, 1), (4, 7))
        self.assertEqual(desk.least_lots(), [[0], [2]])
        self.assertEqual(desk.standings(), [(0, "open"), (2, "open")])

    def test_numbers_in_a_sheaf(self):
        desk = Desk(ROW, doubt=AtMost(1))
        desk.tell(0, 1, 9, 9)
        desk.recount(0, 2, 12)
        desk.tell(0, 1, 4, 4)
        desk.tell(0, 1, 4, 4)
        desk.withdraw(0)
        papers = desk.sheaf(0, 1, 4)
        self.assertEqual(sorted(papers), [(0, [("claim", 2, "up")]), (0, [("claim", 3, "up")])])
        self.assertEqual(desk.sheaf(0, 2, 12), [(0, [("recount", 1, "up")])])
        self.assertIsNone(desk.sheaf(0, 1, 3))
        self.assertEqual(desk.sheaf(0, 2, 20), [(0, [("recount", 1, "up")])])
        papers = desk.sheaf(1, 2, 8)
        sides = [(1, [("claim", number, "down"), ("recount", 1, "up")]) for number in (2, 3)]
        self.assertEqual(sorted(papers), sides)
        desk.recount(1, 0, -4)
        self.assertEqual(desk.sheaf(1, 2, 8), [(1, [("recount", 4, "up"), ("recount", 1, "up")])])
        self.assertEqual(Desk(ROW).sheaf(0, 1, 9), [(0, [("rule", 0, "up")])])

    def test_no_world(self):
        desk = Desk(ROW)
        desk.tell(0, 1, 4, 4)
        desk.tell(0, 1, 5, 5)
        for function, arguments in [
            (desk.span, (0, 1)), (desk.verdict, (0, 1, 4)), (desk.standings, ()), (desk.ranks, ([0, 1],)),
            (desk.settle, (0, 1, 4, [(0, 1, 5)])), (desk.settle, (0, 1, 4, [])), (desk.ranks, ([1],)),
        ]:
            before = history(desk)
            with self.assertRaises(NoWorld):
                function(*arguments)
            self.assertEqual(history(desk), before)
        self.assertEqual(desk.least_lots(), [])
        papers = desk.sheaf(0, 1, 0)
        self.assertEqual(len(papers), 1)
        self.assertEqual({link[:2] for link in papers[0][1]}, {("claim", 0), ("claim", 1)})

    def check_sheaf(self, desk, hall, first, second, high):
        papers = check_call(self, desk.sheaf, first, second, high)
        plain = sheaf(hall, first, second, high)
        if plain is None:
            self.assertIsNone(papers)
            return
        recounts = [row[0] for row in desk.standing() if row[1] == "recount"]
        rules = len(desk.frame.rules)

        def of_hall(link):
            source, number, direction = link
            if source == "claim":
                return source, desk.numbers().index(number), direction
            return ("rule", number if source == "rule" else rules + recounts.index(number), direction)

        told = [(start, [of_hall(link) for link in chain]) for start, chain in papers]
        self.assertEqual(told, plain)
        self.assertTrue(accepts_sheaf(hall, first, second, high, told))

    def test_the_functions_for_the_hall(self):
        words = []
        random = seeded(673)
        cases = list(told_desks(672, 160)) + [(random, desk, None) for desk, _ in random_desks(random, 40)]
        for random, desk, worlds in cases:
            hall = desk.hall()
            numbers = desk.numbers()
            nodes = range(desk.frame.size)
            first, second = random.choices(nodes, k=2)
            low, high = random.randint(-3, 3), random.randint(-3, 3)
            self.assertEqual(answer_of(desk.span, first, second), answer_of(span, hall, first, second))
            word = answer_of(verdict, hall, first, second, low, high)
            words.append(word if word == "no world" else word[0])
            self.assertEqual(answer_of(desk.verdict, first, second, low, high), words[-1])
            told = answer_of(standings, hall)
            told = told if told == "no world" else list(zip(numbers, told))
            self.assertEqual(answer_of(desk.standings), told)
            holders = random.sample(nodes, random.randint(1, len(nodes)))
            ranks = [answer_of(rank_range, hall, holders, node) for node in holders]
            ranks = "no world" if "no world" in ranks else [(node, *pair) for node, pair in zip(holders, ranks)]
            self.assertEqual(answer_of(desk.ranks, holders), ranks)
            offers = [(*random.sample(nodes, 2), random.randint(0, 5)) for _ in range(4)] if len(nodes) > 1 else []
            settled = answer_of(cheapest_settling, hall, first, second, high, offers)
            self.assertEqual(answer_of(desk.settle, first, second, high, offers), settled)
            lots = [[numbers[index] for index in lot] for lot in least_lots(hall)]
            self.assertEqual(check_call(self, desk.least_lots), lots)
            self.check_sheaf(desk, hall, first, second, high)
            if words[-1] != "no world":
                check_call(self, desk.standings)
                check_call(self, desk.ranks, holders)
                check_call(self, desk.settle, first, second, high, offers)
        for word in ("no world", "certain", "open", "never"):
            self.assertGreater(words.count(word), 15, word)

    def test_against_all_worlds(self):
        found = 0
        for random, desk, worlds in told_desks(674, 150):
            fitting = fitting_of(desk, worlds)
            first, second = random.choices(range(desk.frame.size), k=2)
            if not fitting:
                self.assertEqual(answer_of(desk.span, first, second), "no world")
                continue
            found += 1
            values = [difference(levels, first, second) for levels in fitting]
            self.assertEqual(desk.span(first, second), (min(values), max(values)))
            low = random.randint(-3, 3)
            answers = {value >= low for value in values}
            word = "open" if len(answers) == 2 else "certain" if True in answers else "never"
            self.assertEqual(desk.verdict(first, second, low), word)
        self.assertGreater(found, 70)


class OrderTest(unittest.TestCase):
    def test_desks_with_the_same_entries(self):
        def doubt_of(random):
            return random.choice([AtMost(1), AtMost(2), Within(4), AtMost(2) & Within(5), AtMost(1) | Within(3)])

        fitting = 0
        for random, desk, worlds in told_desks(675, 120, doubt_of):
            frame = Frame(desk.frame.size, desk.frame.rules)
            other = Desk(frame, doubt=AtMost(7))
            other.tell(0, 0, weight=3)
            rows = desk.standing()
            random.shuffle(rows)
            for at, (_, kind, first, second, *told) in enumerate(rows):
                if kind == "recount":
                    other.recount(first, second, *told)
                else:
                    low, high, weight = told
                    number = other.tell(first, second, weight=weight)
                    other.correct(number, low, high)
                if at == 1:
                    other.withdraw(0)
            if len(rows) < 2:
                other.withdraw(0)
            do_deed(other, ("doubt", desk.doubt))
            first, second = random.choices(range(frame.size), k=2)
            low = random.randint(-3, 3)
            holders = random.sample(range(frame.size), random.randint(1, frame.size))
            for function in ("span", "verdict", "ranks"):
                arguments = {"span": (first, second), "verdict": (first, second, low), "ranks": (holders,)}[function]
                answer = answer_of(getattr(desk, function), *arguments)
                self.assertEqual(answer_of(getattr(other, function), *arguments), answer)
                fitting += answer != "no world"
        self.assertGreater(fitting, 150)


if __name__ == "__main__":
    unittest.main()
