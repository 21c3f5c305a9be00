"""Growing errors: claims that are a little wrong instead of false."""

from counthall.flows import cheapest_flows, cost_of, open_steps
from counthall.tables import bounded, check_nodes, column_world


def growth(claims, levels):
    """The sum of the weighted amounts by which claims are wrong in a world (point 65)."""
    return sum(claim.weight * claim.excess(levels) for claim in claims)


def flow_gap(frame, claims, flow):
    """The gap of a flow, or None if it is no circulation (point 66)."""
    check_nodes(frame, claims)
    bands = [*rule_bands(frame), *claim_bands(claims)]
    flows = [*flow[0], *flow[1]]
    surplus = [0] * frame.size
    for band, amount in zip(bands, flows):
        if not _may_pass(band, amount):
            return None
        surplus[band[0]] -= amount
        surplus[band[1]] += amount
    return -cost_of(bands, flows) if not any(surplus) else None


def least_growth(frame, claims):
    """The least growth, the least world that has it, and a circulation that proves it (point 67)."""
    check_nodes(frame, claims)
    bands = [*rule_bands(frame), *claim_bands(claims)]
    flows = cheapest_flows(frame.size, bands)
    levels = column_world(tight_table(frame, bands, flows), 0)
    rules = len(frame.rules)
    return growth(claims, levels), levels, (flows[:rules], flows[rules:])


def cheapest_table(frame, claims):
    """The table of the worlds of the frame with the least growth (point 68)."""
    check_nodes(frame, claims)
    bands = [*rule_bands(frame), *claim_bands(claims)]
    return tight_table(frame, bands, cheapest_flows(frame.size, bands))


def rule_bands(frame):
    """The bands for the rules of a frame, which hold at any price."""
    return [(*rule, None) for rule in frame.rules]


def claim_bands(claims):
    """The bands for claims, which hold at the price of their weights."""
    return [claim.parts() for claim in claims]


def tight_table(frame, bands, flows):
    """The table of the worlds whose growth under the bands is the gap of their cheapest flows."""
    table = frame.base_table()
    # In such a world no difference is above the cost of an open step, and only in such a one.
    for step in open_steps(bands, flows, list(range(len(bands)))):
        table = bounded(table, step[0], step[1], step[2])
    return table


def _may_pass(band, amount):
    low, high, most = band[2:]
    if amount > 0 and high is None or amount < 0 and low is None:
        return False
    return most is None or abs(amount) <= most
