"""Inputs at the limits of the points, and a clock for calls with them."""

import time
import unittest

from counthall.claims import Claim
from counthall.doubts import AtMost, Lots, Within
from counthall.frames import Frame
from counthall.halls import Hall
from tests.plain import seeded

SECONDS = 1.0
FAR = 10 ** 9


def hard_doubts(random):
    """Doubts that are 3 deep, with 24 listed lots each, and few or many largest lots."""
    def listed(size):
        return Lots([random.sample(range(10), size) + random.sample(range(10, 40), 9) for _ in range(24)])

    half = AtMost(5) | listed(4)
    yield (half & (listed(6) | AtMost(5))) | ((listed(4) | Within(200)) & (AtMost(5) | listed(3)))
    seven = (listed(7) | listed(7)) & (listed(7) | listed(7))
    yield seven | ((listed(3) & AtMost(4)) | (Within(10 ** 6) & AtMost(4)))
    yield ((AtMost(9) & Within(500)) | (listed(8) | listed(8))) & ((AtMost(9) | listed(9)) & (Within(400) | listed(5)))
    yield ((AtMost(1) | Within(90)) | (AtMost(1) | listed(2))) & ((AtMost(2) | Within(99)) | (AtMost(2) | listed(1)))


def hard_frame(random, spread):
    """A frame of 16 nodes with 60 rules and a hidden world, and that world."""
    world = [0] + [random.randint(-FAR // 2, FAR // 2) for _ in range(15)]
    pairs = [(node, node + 1) for node in range(15)]
    pairs += [tuple(random.sample(range(16), 2)) for _ in range(45)]
    rules = []
    for first, second in pairs:
        difference = world[second] - world[first]
        low = max(-FAR, difference - random.randint(0, spread))
        rules.append((first, second, low, min(FAR, difference + random.randint(0, spread))))
    return Frame(16, rules), world


def hard_claims(random, world, count, spread):
    claims = []
    for _ in range(count):
        first, second = random.sample(range(16), 2)
        low = world[second] - world[first] - random.randint(-spread, spread)
        claims.append(Claim(first, second, low, low + random.randint(0, spread), weight=random.randint(1, 99)))
    return claims


def loose_frame():
    """A frame of 16 nodes with 60 rules that leave much room."""
    rules = [(0, node, -FAR, FAR) for node in range(1, 16)]
    pairs = [(first, second) for first in range(1, 10) for second in range(first + 1, first + 6)]
    return Frame(16, [*rules, *[(*pair, -FAR, FAR) for pair in pairs[:45]]])


def hard_halls(number):
    """Halls at the limits, each with two nodes to ask about.

    The frames are tight or loose, and the claims agree, clash, or stand beside or behind each other.
    """
    random = seeded(number)
    for doubt in [*hard_doubts(random), AtMost(5), AtMost(3)]:
        for spread in (3, FAR // 8):
            frame, world = hard_frame(random, spread)
            claims = hard_claims(random, world, 10, spread)
            yield Hall(frame, claims, doubt=doubt), 2, 13
            yield Hall(frame, [claim.widened(2 * spread) for claim in claims], doubt=doubt), 13, 2
        for pairs, end in [
            ([(0, 1)] * 10, 1),
            ([(at // 2, at // 2 + 1) for at in range(10)], 5),
            ([(at, at + 1) for at in range(10)], 9),
        ]:
            bounds = [(random.randint(-9, 0), random.randint(0, 9)) for _ in pairs]
            claims = [Claim(*pair, *bound, weight=random.randint(1, 99)) for pair, bound in zip(pairs, bounds)]
            yield Hall(loose_frame(), claims, doubt=doubt), 0, end


class TimedTest(unittest.TestCase):
    """A test that measures calls."""

    def timed(self, function, *arguments, **named):
        before = time.process_time()
        try:
            return function(*arguments, **named)
        finally:
            # A call that raises an error is measured, too.
            self.assertLess(time.process_time() - before, SECONDS, function)
