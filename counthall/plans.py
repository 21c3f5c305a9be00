"""Plans: who will be asked, before anything is told."""

from counthall.claims import MOST_WEIGHT, Claim
from counthall.errors import InvalidPlan
from counthall.frames import MOST_NODES, Frame, is_connected
from counthall.halls import Hall

MOST_ASKINGS = 8


class Plan:
    """Nodes with limits for their differences, and the askings about them (point 74)."""

    def __init__(self, size, limits, askings):
        kept_limits = tuple([tuple(limit) for limit in limits])
        kept_askings = tuple([tuple(asking) for asking in askings])
        if not 1 <= size <= MOST_NODES:
            raise InvalidPlan("size")
        if not _are_limits(size, kept_limits):
            raise InvalidPlan("limits")
        if len(kept_askings) > MOST_ASKINGS or not all(_is_asking(size, asking) for asking in kept_askings):
            raise InvalidPlan("askings")
        self.size = size
        self.limits = kept_limits
        self.askings = kept_askings
        self.weights = tuple([asking[3] for asking in kept_askings])


def told_hall(plan, telling, doubt):
    """The hall of what is told to the askings of a plan (point 75)."""
    frame = Frame(plan.size, [(first, second, 0, room) for first, second, room in plan.limits])
    claims = [
        Claim(first, second, low, high, weight=weight)
        for (first, second, _, weight), (low, high) in zip(plan.askings, telling)
    ]
    return Hall(frame, claims, doubt=doubt)


def _are_limits(size, limits):
    if len(limits) != size - 1:
        return False
    if not all(0 <= first < size and 0 <= second < size and room >= 0 for first, second, room in limits):
        return False
    return is_connected(size, limits)


def _is_asking(size, asking):
    first, second, error, weight = asking
    return 0 <= first < size and 0 <= second < size and error >= 0 and 1 <= weight <= MOST_WEIGHT
