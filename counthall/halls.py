"""Halls: a frame, the claims about it, and the doubt in the tellers."""

from counthall.doubts import AtMost
from counthall.tables import check_nodes


class Hall:
    """A frame with claims and a doubt (point 28)."""

    def __init__(self, frame, claims, *, doubt=None):
        check_nodes(frame, claims)
        self.frame = frame
        self.claims = tuple(claims)
        self.weights = tuple([claim.weight for claim in claims])
        self.doubt = AtMost(0) if doubt is None else doubt

    def untrue(self, levels):
        """The set of the indexes of the claims that do not hold."""
        return [index for index, claim in enumerate(self.claims) if not claim.holds(levels)]

    def fits(self, levels):
        """Whether a list of any length is a world that fits the hall."""
        return self.frame.allows(levels) and self.doubt.allows(self.untrue(levels), self.weights)
