"""Sheaves of papers that prove a bound whichever lot is false, and counters that refute it."""

from counthall.carriers import carrying_flags, needed_carriers
from counthall.chains import chain_end, clash_ring, least_chain, renumbered
from counthall.errors import BrokenChain
from counthall.fitting import rest_tables
from counthall.lots import largest_lots
from counthall.masks import mask_of
from counthall.tables import row_world


def sheaf(hall, first, second, high):
    """Papers for the bound that no allowed lot meets all of, or None if it need not hold (point 37)."""
    sets = needed_carriers(hall, carrying_flags(hall, first, second, high))
    if sets is None:
        return None
    return [_paper(hall, chosen, first, second) for chosen in sets]


def accepts_sheaf(hall, first, second, high, papers):
    """Whether the papers are a sheaf for the bound (point 38)."""
    for start, chain in papers:
        if not _is_paper(hall, first, second, high, start, chain):
            return False
    masks = [_claims_mask(chain) for start, chain in papers]
    lots = [mask_of(lot) for lot in largest_lots(hall.doubt, hall.weights)]
    return not any(_meets_all(lot, masks) for lot in lots)


def counter(hall, first, second, high):
    """A largest lot and a fitting world against the bound, or None if it holds (point 39)."""
    for lot, table in rest_tables(hall):
        if table is not None and table[first][second] > high:
            return lot, row_world(table, first)
    return None


def _paper(hall, chosen, first, second):
    """A paper that the chosen claims give; they carry the bound."""
    claims = [hall.claims[index] for index in chosen]
    found = clash_ring(hall.frame, claims)
    if found is None:
        start, chain = first, least_chain(hall.frame, claims, first, second)[1]
    else:
        start, chain = found
    return start, renumbered(chain, chosen)


def _is_paper(hall, first, second, high, start, chain):
    try:
        end, total = chain_end(hall.frame, hall.claims, start, chain)
    except BrokenChain:
        return False
    if start == first and end == second and total <= high:
        return True
    # A chain without links has the total 0, so it is no ring here.
    return end == start and total < 0


def _claims_mask(chain):
    # A chain may pass a claim several times.
    return mask_of(sorted({index for source, index, direction in chain if source == "claim"}))


def _meets_all(lot, masks):
    return all(lot & mask for mask in masks)
