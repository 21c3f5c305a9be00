"""Prices of counts if every claim is about one box alone."""

from counthall.estimates import untrue_weight
from counthall.runs import Runs


def curve(estimates, room):
    """The untrue weights of the counts from 0 to the room (point 53)."""
    return [untrue_weight(estimates, count) for count in range(room + 1)]


def price(curves, counts):
    """The sum of the prices of the counts (point 53)."""
    return sum(costs[count] for costs, count in zip(curves, counts))


def total_prices(curves):
    """The least price of counts with each possible sum (point 54)."""
    return _totals_behind(curves)[0]


def cheapest_counts(curves, total):
    """The first counts with this sum and the least price for it, or None (point 54)."""
    behind = _totals_behind(curves)
    if not 0 <= total < len(behind[0]):
        return None
    counts = []
    left = total
    for costs, here, further in zip(curves, behind, behind[1:]):
        fitting = [
            count for count, cost in enumerate(costs)
            if 0 <= left - count < len(further) and cost + further[left - count] == here[left]
        ]
        counts.append(fitting[0])
        left -= fitting[0]
    return counts


def totals_within(curves, limit):
    """The sums whose least price is within the limit (point 54)."""
    return Runs([(total, total) for total, cost in enumerate(total_prices(curves)) if cost <= limit])


def _totals_behind(curves):
    """For each box, and for the end, the least price of each sum of the counts from there on."""
    behind = [[0]]
    for costs in reversed(curves):
        behind.append(_joined(costs, behind[-1]))
    return behind[::-1]


def _joined(costs, totals):
    last = len(totals) - 1
    return [
        min([costs[count] + totals[total - count] for count in range(max(0, total - last), min(total + 1, len(costs)))])
        for total in range(len(costs) + last)
    ]
