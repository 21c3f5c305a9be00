"""Claims that all grow at once, each by its share."""

from math import gcd

from counthall.chains import chain_end, clash_ring, renumbered
from counthall.claims import Claim
from counthall.frames import Frame
from counthall.tables import bounded, check_nodes, column_world, with_claim


def even_growth(frame, claims, shares=None):
    """The least number by which the claims must grow, a world for it, and a ring against less (point 71)."""
    check_nodes(frame, claims)
    parts = _parts(claims, shares)
    paper = _firm_ring(frame, claims, parts)
    if paper is not None:
        return None, None, paper
    amount = _least_amount(frame.base_table(), claims, parts)
    levels = column_world(_table_with(frame.base_table(), _grown(claims, parts, amount)), 0)
    if amount > 0:
        paper = clash_ring(frame, _grown(claims, parts, amount - 1))
    return amount, levels, paper


def even_fraction(frame, claims, shares=None):
    """The greatest need of any ring as a fraction, or None if growing does not mend some ring (point 72)."""
    check_nodes(frame, claims)
    parts = _parts(claims, shares)
    if _firm_ring(frame, claims, parts) is not None:
        return None
    # Needs are fractions whose denominators are at most the sum of the shares. In units of this
    # size two different ones are more than 1 apart, so a ring that needs the last unit has the most.
    units = 1 + sum(parts) * sum(parts)
    fine = Frame(frame.size, [(*rule[:2], rule[2] * units, rule[3] * units) for rule in frame.rules])
    fine_claims = [_scaled_claim(claim, units) for claim in claims]
    amount = _least_amount(fine.base_table(), fine_claims, parts)
    if amount == 0:
        return 0, 1
    start, ring = clash_ring(fine, _grown(fine_claims, parts, amount - 1))
    total = -chain_end(frame, claims, start, ring)[1]
    share = sum(parts[index] for source, index, direction in ring if source == "claim")
    common = gcd(total, share)
    return total // common, share // common


def even_against(frame, claims, first, second, high, shares=None):
    """The least growth of all claims for a difference above a number, and such a world, or None (point 72)."""
    check_nodes(frame, claims)
    parts = _parts(claims, shares)
    table = bounded(frame.base_table(), second, first, -high - 1)
    if table is None or _table_with(table, _firm(claims, parts)) is None:
        return None
    amount = _least_amount(table, claims, parts)
    return amount, column_world(_table_with(table, _grown(claims, parts, amount)), 0)


def _parts(claims, shares):
    return [1] * len(claims) if shares is None else list(shares)


def _firm(claims, shares):
    """The claims that do not grow."""
    return [claim for claim, share in zip(claims, shares) if share == 0]


def _firm_ring(frame, claims, shares):
    """A node and a ring with a negative total in which no claim grows, or None."""
    found = clash_ring(frame, _firm(claims, shares))
    if found is None:
        return None
    return found[0], renumbered(found[1], [index for index, share in enumerate(shares) if share == 0])


def _grown(claims, shares, amount):
    return [claim.widened(amount * share) for claim, share in zip(claims, shares)]


def _scaled_claim(claim, units):
    low = None if claim.low is None else claim.low * units
    high = None if claim.high is None else claim.high * units
    return Claim(claim.first, claim.second, low, high)


def _table_with(table, claims):
    """The closed table of the worlds of a table in which all claims hold, or None."""
    for claim in claims:
        table = with_claim(table, claim)
        if table is None:
            return None
    return table


def _least_amount(table, claims, shares):
    """The least number by which claims must grow to hold in some world; those that do not grow hold in one."""
    low = 0
    # Claims that grow by this number hold in every world of the table.
    high = max([_greatest_excess(table, claim) for claim in claims], default=0)
    while low < high:
        middle = (low + high) // 2
        if _table_with(table, _grown(claims, shares, middle)) is None:
            low = middle + 1
        else:
            high = middle
    return low


def _greatest_excess(table, claim):
    above = 0 if claim.high is None else table[claim.first][claim.second] - claim.high
    below = 0 if claim.low is None else claim.low + table[claim.second][claim.first]
    return max(0, above, below)
