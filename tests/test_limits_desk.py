"""Point 99 for parting, accounts, hunts, settling, texts, deeds and the desk."""

import unittest

from counthall.accounts import account_levels, corrected, suspect_ring, suspects
from counthall.deeds import format_deeds, parse_deeds
from counthall.desk import Desk, replay
from counthall.doubts import AtMost, Lots, Within
from counthall.errors import Contradiction, NoWorld
from counthall.frames import Frame
from counthall.halls import Hall
from counthall.hunts import follow, hunt
from counthall.parting import parting, parting_case
from counthall.plans import Plan, told_hall
from counthall.settling import cheapest_settling, settles
from counthall.texts import format_doubt, format_hall, parse_doubt, parse_hall
from tests.hard import FAR, TimedTest, hard_claims, hard_doubts, hard_frame
from tests.plain import difference, seeded
from tests.test_accounts import ring_accounts

ALL = list(range(16))


def doubts_for_eight(random):
    """Doubts that are 3 deep, with 24 listed lots each, and few or many largest lots of 8 claims."""
    def listed(size):
        return Lots([random.sample(range(8), size) + random.sample(range(8, 40), 9) for _ in range(24)])

    yield (((listed(4) | AtMost(4)) & (listed(6) | AtMost(4))) | ((listed(4) | Within(200)) & (AtMost(4) | listed(3))))
    fours = (listed(4) | listed(4)) | (listed(4) | listed(3))
    yield fours | ((listed(3) & AtMost(4)) | (Within(10 ** 6) & AtMost(3)))
    yield AtMost(4)
    yield AtMost(3)
    yield from hard_doubts(random)


def full_desk(random, doubt, spread, wide):
    """A desk with 100 deeds, 10 claims and 10 recounts over 16 nodes and 40 rules."""
    frame, world = hard_frame(random, spread)
    desk = Desk(Frame(16, frame.rules[:40]), doubt=doubt)
    for claim in hard_claims(random, world, 10, spread):
        bounds = claim.widened(wide)
        desk.tell(claim.first, claim.second, bounds.low, bounds.high, weight=claim.weight)
    for first, second in [random.sample(range(16), 2) for _ in range(10)]:
        desk.recount(first, second, difference(world, first, second))
    while len(desk.deeds()) < 100:
        row = desk.standing()[random.choice(desk.numbers()) % 10]
        desk.set_doubt(doubt) if random.random() < 0.3 else desk.correct(row[0], *row[4:6])
    return desk, world


class DeskLimitsTest(TimedTest):
    def timed_fitting(self, function, *arguments):
        """The answer of a timed call, or None if no world fits."""
        try:
            return self.timed(function, *arguments)
        except NoWorld:
            return None

    def test_parting(self):
        random = seeded(681)
        for doubt in doubts_for_eight(random):
            for error in (0, 10 ** 9, 10 ** 11):
                limits = [(random.randrange(node), node, random.randint(0, 10 ** 10)) for node in range(1, 16)]
                askings = [(*random.sample(range(16), 2), random.randint(0, error), 50 + at) for at in range(8)]
                plan = Plan(16, limits, askings)
                width = self.timed(parting, plan, doubt, 0, 15)[0]
                telling, levels, other = self.timed(parting_case, plan, doubt, 0, 15)
                self.assertEqual(difference(other, 0, 15) - difference(levels, 0, 15), width)
                self.assertTrue(told_hall(plan, telling, doubt).fits(other))

    def test_accounts(self):
        random = seeded(682)
        for many in (2, 10, 16):
            for _ in range(5):
                size, accounts = ring_accounts(random, many, 16 - many)
                if account_levels(size, accounts) is None:
                    levels = account_levels(size, [account for at, account in enumerate(accounts) if at > 3] * 2) or []
                    more = [(a, b, difference(levels, a, b)) for a, b, _ in accounts[4:8] if levels]
                    found = self.timed(suspects, size, [*accounts, *more])
                    self.timed(account_levels, size, [*accounts, *more])
                    if found:
                        self.timed(suspect_ring, size, [*accounts, *more])
                        self.timed(corrected, size, [*accounts, *more], found[0])

    def test_hunts(self):
        random = seeded(683)
        for many in (10, 10, 10, 11):
            size, accounts = ring_accounts(random, many, 0)
            far = [(first + 5, second + 5, value * 10 ** 10) for first, second, value in accounts]
            for prices in (None, [random.randint(0, 999) for _ in range(15)], [0] * 15):
                tree = self.timed(hunt, 16, far, prices)[1]
                self.timed(follow, tree, [0] * 16)

    def test_settling(self):
        random = seeded(684)
        fitting = 0
        for doubt in doubts_for_eight(random):
            for spread in (3, 60, FAR // 8):
                frame, world = hard_frame(random, spread)
                for wide in (0, 2 * spread):
                    claims = [claim.widened(wide) for claim in hard_claims(random, world, 8, spread)]
                    hall = Hall(frame, claims, doubt=doubt)
                    offers = [(*random.sample(range(16), 2), random.randint(0, 999)) for _ in range(20)]
                    for high in (world[15] - 1, world[15], world[15] + 1):
                        self.timed_fitting(cheapest_settling, hall, 0, 15, high, offers)
                        fitting += self.timed_fitting(settles, hall, 0, 15, high, 3, 12) is not None
        self.assertGreater(fitting, 20)

    def test_texts(self):
        random = seeded(685)
        for doubt in hard_doubts(random):
            text = self.timed(format_doubt, doubt)
            self.assertEqual(self.timed(format_doubt, self.timed(parse_doubt, text)), text)
            frame, world = hard_frame(random, FAR // 8)
            text = self.timed(format_hall, Hall(frame, hard_claims(random, world, 40, 99), doubt=doubt))
            self.assertEqual(self.timed(format_hall, self.timed(parse_hall, text)), text)
            deeds = [("doubt", format_doubt(doubt)), ("tell", 0, 15, -FAR, FAR, 99)] * 50
            text = self.timed(format_deeds, deeds)
            self.assertEqual(self.timed(parse_deeds, text), deeds)

    def test_a_full_desk(self):
        random = seeded(686)
        fitting = 0
        for doubt in [*hard_doubts(random), AtMost(5), AtMost(3)]:
            for spread, wide in [(3, 0), (3, 6), (FAR // 8, 0), (FAR // 8, FAR // 4)]:
                desk, world = full_desk(random, doubt, spread, wide)
                fitting += self.timed_fitting(desk.span, 0, 15) is not None
                self.timed_fitting(desk.verdict, 0, 15, world[15], world[15])
                self.timed_fitting(desk.standings)
                self.timed_fitting(desk.ranks, ALL)
                offers = [(*random.sample(range(16), 2), random.randint(0, 999)) for _ in range(20)]
                self.timed_fitting(desk.settle, 0, 15, world[15], offers)
                self.timed(desk.least_lots)
                for high in (world[15] - 1, world[15] + spread):
                    self.timed(desk.sheaf, 0, 15, high)
                for name in ("standing", "numbers", "hall", "deeds", "journal", "undo", "redo"):
                    self.timed(getattr(desk, name))
                entry = desk.standing()[0]
                deeds = [("correct", 0, *entry[4:6]), ("doubt", format_doubt(doubt))] * 45
                self.timed_fitting(desk.attempt, deeds, 0, 15)
                again = self.timed(replay, desk.frame, desk.journal(), doubt=doubt)
                self.assertEqual(again.standing(), desk.standing())
        self.assertGreater(fitting, 10)

    def test_recounts_that_contradict(self):
        random = seeded(687)
        frame, world = hard_frame(random, FAR // 8)
        desk = Desk(Frame(16, frame.rules[:40]))
        for node in range(9):
            desk.recount(node, node + 1, difference(world, node, node + 1))
        with self.assertRaises(Contradiction) as caught:
            self.timed(desk.recount, 0, 9, difference(world, 0, 9) + 1)
        self.assertEqual(caught.exception.numbers, list(range(9)))


if __name__ == "__main__":
    unittest.main()
