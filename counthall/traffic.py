"""How much passes the borders of a ledger."""

from counthall.chains import clash_ring
from counthall.errors import Clash
from counthall.flows import cheapest_flows
from counthall.growth import rule_bands, tight_table
from counthall.tables import column_world


def traffic(ledger, levels):
    """The sum of the numbers of things that pass the borders from hour to hour (point 73)."""
    return sum(abs(ledger.passed(levels, border, hour, hour + 1)) for border, hour in _crossings(ledger))


def least_traffic(ledger, claims):
    """The least traffic of a world in which all claims hold, and such a world (point 73)."""
    frame = ledger.frame
    found = clash_ring(frame, claims)
    if found is not None:
        start, ring = found
        raise Clash(start, ring)
    # Traffic is the growth under claims that nothing passes any border; the given claims hold like rules.
    still = [(ledger.node(border, hour), ledger.node(border, hour + 1), 0, 0, 1) for border, hour in _crossings(ledger)]
    told = [(claim.first, claim.second, claim.low, claim.high, None) for claim in claims]
    bands = [*rule_bands(frame), *told, *still]
    levels = column_world(tight_table(frame, bands, cheapest_flows(frame.size, bands)), 0)
    return traffic(ledger, levels), levels


def _crossings(ledger):
    return [(border, hour) for border in range(1, len(ledger.rooms) + 1) for hour in range(ledger.last)]
