"""What growth it takes to break a bound, or to reach a difference."""

from counthall.flows import cheapest_flows, cost_of
from counthall.growth import claim_bands, growth, rule_bands, tight_table
from counthall.tables import check_nodes, column_world


def growth_against(frame, claims, first, second, high):
    """The least growth of a world with a difference above a number, and such a world, or None (point 69)."""
    check_nodes(frame, claims)
    greatest = frame.base_table()[first][second]
    if greatest <= high:
        return None
    bands = [*rule_bands(frame), (first, second, high + 1, greatest, None), *claim_bands(claims)]
    levels = column_world(tight_table(frame, bands, cheapest_flows(frame.size, bands)), 0)
    return growth(claims, levels), levels


def growth_curve(frame, claims, first, second):
    """The least difference of two nodes, and the least growth for each of their differences (point 70)."""
    check_nodes(frame, claims)
    table = frame.base_table()
    low = -table[second][first]
    return low, [
        _growth_at(frame, claims, first, second, difference)
        for difference in range(low, table[first][second] + 1)
    ]


def _growth_at(frame, claims, first, second, difference):
    bands = [*rule_bands(frame), (first, second, difference, difference, None), *claim_bands(claims)]
    return -cost_of(bands, cheapest_flows(frame.size, bands))
