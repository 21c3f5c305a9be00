"""Doubts: which claims may be false together."""

from counthall.errors import InvalidDoubt
from counthall.masks import mask_of

MOST_COUNT = 99
MOST_LIMIT = 1000000
MOST_LOTS = 24
LAST_NUMBER = 39


class Doubt:
    """The base class of all doubts (point 17)."""

    def __and__(self, other):
        return Both(self, other)

    def __or__(self, other):
        return Either(self, other)


class AtMost(Doubt):
    """At most so many claims are false together (point 16)."""

    def __init__(self, count):
        if not 0 <= count <= MOST_COUNT:
            raise InvalidDoubt("count")
        self.count = count

    def allows(self, lot, weights):
        """Whether the claims of the lot may be false together."""
        return len(lot) <= self.count


class Within(Doubt):
    """The weights of the false claims have at most this sum (point 16)."""

    def __init__(self, limit):
        if not 0 <= limit <= MOST_LIMIT:
            raise InvalidDoubt("limit")
        self.limit = limit

    def allows(self, lot, weights):
        """Whether the claims of the lot may be false together."""
        return sum(weights[index] for index in lot) <= self.limit


class Lots(Doubt):
    """All false claims belong to one of the listed lots (point 16)."""

    def __init__(self, lots):
        if len(lots) > MOST_LOTS or not all(_is_lot(lot) for lot in lots):
            raise InvalidDoubt("lots")
        self.lots = tuple(sorted({tuple(sorted(lot)) for lot in lots}))
        self._masks = [mask_of(lot) for lot in self.lots]

    def allows(self, lot, weights):
        """Whether the claims of the lot may be false together."""
        mask = mask_of(lot)
        # The empty lot is allowed even if no lot is listed.
        return mask == 0 or any((mask | listed) == listed for listed in self._masks)


class Both(Doubt):
    """The lots that two doubts both allow (point 17)."""

    def __init__(self, first, second):
        self.first = first
        self.second = second

    def allows(self, lot, weights):
        """Whether the claims of the lot may be false together."""
        return self.first.allows(lot, weights) and self.second.allows(lot, weights)


class Either(Doubt):
    """The lots that at least one of two doubts allows (point 17)."""

    def __init__(self, first, second):
        self.first = first
        self.second = second

    def allows(self, lot, weights):
        """Whether the claims of the lot may be false together."""
        return self.first.allows(lot, weights) or self.second.allows(lot, weights)


def _is_lot(lot):
    return len(set(lot)) == len(lot) and all(0 <= number <= LAST_NUMBER for number in lot)
