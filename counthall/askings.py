"""Offers of tellers who can be asked for exact differences."""

from counthall.flows import cheapest_flows, open_steps


def cheapest_askings(size, offers, first, second, ways):
    """The cheapest offers with so many ways between two nodes, and levels that prove it (point 63)."""
    bands = [(one, other, -price, price, 1) for one, other, price in offers]
    # So much is more than any way costs: the flow only ends if there is no further way.
    plenty = 1 + sum(offer[2] for offer in offers)
    flows = cheapest_flows(size, [*bands, (first, second, plenty, None, ways)])
    if flows[-1] != -ways:
        return None
    chosen = [at for at in range(len(offers)) if flows[at] != 0]
    return sum(offers[at][2] for at in chosen), chosen, _levels_for(size, bands, flows)


def askings_bound(offers, first, second, ways, levels):
    """What so many ways between two nodes cost at least, as the levels show (point 64)."""
    above = sum(max(0, abs(levels[other] - levels[one]) - price) for one, other, price in offers)
    return ways * (levels[second] - levels[first]) - above


def _levels_for(size, bands, flows):
    """Levels with which no open step leads up by more than its cost."""
    steps = open_steps(bands, flows, list(range(len(bands))))
    levels = [0] * size
    for _ in range(size):
        for step in steps:
            levels[step[1]] = min(levels[step[1]], levels[step[0]] + step[2])
    return levels
