"""Claims: what tellers tell about differences."""

from counthall.errors import InvalidClaim

LAST_NODE = 15
MOST_WEIGHT = 99


class Claim:
    """The difference of two nodes is said to lie between two bounds (point 9)."""

    def __init__(self, first, second, low=None, high=None, *, weight=1):
        if not (0 <= first <= LAST_NODE and 0 <= second <= LAST_NODE):
            raise InvalidClaim("nodes")
        if low is not None and high is not None and low > high:
            raise InvalidClaim("bounds")
        if not 1 <= weight <= MOST_WEIGHT:
            raise InvalidClaim("weight")
        self.first = first
        self.second = second
        self.low = low
        self.high = high
        self.weight = weight

    def holds(self, levels):
        """Whether the claim holds in a world."""
        return self.excess(levels) == 0

    def excess(self, levels):
        """By how much the difference lies outside the bounds."""
        difference = levels[self.second] - levels[self.first]
        if self.low is not None and difference < self.low:
            return self.low - difference
        if self.high is not None and difference > self.high:
            return difference - self.high
        return 0

    def turned(self):
        """The claim about the exchanged nodes that holds in the same worlds."""
        low = None if self.high is None else -self.high
        high = None if self.low is None else -self.low
        return Claim(self.second, self.first, low, high, weight=self.weight)

    def widened(self, amount):
        """The claim with both bounds moved outwards by the amount."""
        low = None if self.low is None else self.low - amount
        high = None if self.high is None else self.high + amount
        return Claim(self.first, self.second, low, high, weight=self.weight)

    def parts(self):
        """The tuple of all that makes the claim."""
        return self.first, self.second, self.low, self.high, self.weight
