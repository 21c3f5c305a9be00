"""Which claims may be the untrue ones, and the tables of the fitting worlds."""

from counthall.errors import NoWorld
from counthall.lots import allowed_masks, largest_lots
from counthall.masks import least_flagged, mask_of
from counthall.tables import with_claim


def fitting_lots(hall):
    """The ascending list of the largest lots whose rest holds in some world (point 29)."""
    return [lot for lot, table in rest_tables(hall) if table is not None]


def least_lots(hall):
    """The ascending list of the least sets of claims that may be the untrue ones (point 29)."""
    allowed = allowed_masks(hall.doubt, hall.weights)
    # The rest of a lot has the mask with all other bits, so the rests come in the opposite order.
    possible = [table is not None for table in reversed(part_tables(hall))]
    return least_flagged([may and can for may, can in zip(allowed, possible)])


def lightest_lot(hall):
    """The least sum of the weights of untrue claims, and the first least lot with this sum (point 29)."""
    lots = least_lots(hall)
    if not lots:
        raise NoWorld("no world fits the hall")
    return min([(sum([hall.weights[index] for index in lot]), lot) for lot in lots])


def part_tables(hall):
    """For the mask of each set of claims, the closed table of the worlds in which they hold, or None."""
    tables = [hall.frame.base_table()]
    for mask in range(1, 1 << len(hall.claims)):
        table = tables[mask & (mask - 1)]
        lowest = (mask & -mask).bit_length() - 1
        tables.append(None if table is None else with_claim(table, hall.claims[lowest]))
    return tables


def rest_tables(hall):
    """Each largest lot with the closed table of its rest, which is None if the rest has no world."""
    tables = part_tables(hall)
    full = len(tables) - 1
    return [(lot, tables[full ^ mask_of(lot)]) for lot in largest_lots(hall.doubt, hall.weights)]


def fitting_tables(hall):
    """Closed tables whose worlds together are the fitting worlds; NoWorld if there is none (point 30)."""
    tables = [table for lot, table in rest_tables(hall) if table is not None]
    if not tables:
        raise NoWorld("no world fits the hall")
    return tables
