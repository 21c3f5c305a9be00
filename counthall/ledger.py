"""Boxes in a row at several hours, and what passes their borders in between."""

from counthall.claims import Claim
from counthall.errors import InvalidClaim, InvalidFrame
from counthall.frames import MOST_NODES, Frame
from counthall.readings import row_counts, row_levels


class Ledger:
    """A row of boxes at the hours 0 to `last` (points 14 and 15)."""

    def __init__(self, rooms, last, *, gates=None):
        if not rooms or last < 0 or 1 + len(rooms) * (last + 1) > MOST_NODES:
            raise InvalidFrame("size")
        kept = [None] * len(rooms) if gates is None else gates
        if min(rooms) < 0 or len(kept) != len(rooms) or any(gate is not None and gate < 0 for gate in kept):
            raise InvalidFrame("rules")
        self.rooms = tuple(rooms)
        self.last = last
        self.gates = tuple(kept)
        self.frame = Frame(1 + len(rooms) * (last + 1), self._room_rules() + self._gate_rules())

    def node(self, border, hour):
        """The node of a border at an hour; the wall is node 0 at every hour."""
        return 0 if border == 0 else hour * len(self.rooms) + border

    def levels_of(self, counts):
        """The levels of all nodes, from a list of counts for each hour."""
        return [0] + [level for row in counts for level in row_levels(row)[1:]]

    def counts_of(self, levels):
        """A list of counts for each hour, from the levels of all nodes."""
        boxes = len(self.rooms)
        starts = [1 + hour * boxes for hour in range(self.last + 1)]
        return [row_counts([0, *levels[start:start + boxes]]) for start in starts]

    def passed(self, levels, border, since, until):
        """How many things passed a border to the right, less those that passed it to the left."""
        return levels[self.node(border, since)] - levels[self.node(border, until)]

    def sum_claim(self, hour, start, stop, low=None, high=None, *, weight=1):
        """The claim about the sum of neighbouring boxes at an hour."""
        if not (0 <= hour <= self.last and 0 <= start <= stop <= len(self.rooms)):
            raise InvalidClaim("nodes")
        return Claim(self.node(start, hour), self.node(stop, hour), low, high, weight=weight)

    def passage_claim(self, border, since, until, low=None, high=None, *, weight=1):
        """The claim about how many things passed a border between two hours."""
        if not (0 <= border <= len(self.rooms) and 0 <= since <= until <= self.last):
            raise InvalidClaim("nodes")
        return Claim(self.node(border, until), self.node(border, since), low, high, weight=weight)

    def _room_rules(self):
        return [
            (self.node(box, hour), self.node(box + 1, hour), 0, room)
            for hour in range(self.last + 1)
            for box, room in enumerate(self.rooms)
        ]

    def _gate_rules(self):
        return [
            (self.node(border, hour), self.node(border, hour + 1), -gate, gate)
            for border, gate in enumerate(self.gates, start=1) if gate is not None
            for hour in range(self.last)
        ]
