"""Which claims may be the untrue ones."""

from counthall.errors import NoWorld
from counthall.lots import allowed_masks, largest_lots
from counthall.masks import least_flagged, mask_of
from counthall.tables import with_claim


def fitting_lots(hall):
    """The ascending list of the largest lots whose rest holds in some world (point 29)."""
    possible = _possible_lots(hall)
    return [lot for lot in largest_lots(hall.doubt, hall.weights) if possible[mask_of(lot)]]


def least_lots(hall):
    """The ascending list of the least sets of claims that may be the untrue ones (point 29)."""
    allowed = allowed_masks(hall.doubt, hall.weights)
    possible = _possible_lots(hall)
    return least_flagged([may and can for may, can in zip(allowed, possible)])


def lightest_lot(hall):
    """The least sum of the weights of untrue claims, and the first least lot with this sum (point 29)."""
    lots = least_lots(hall)
    if not lots:
        raise NoWorld("no world fits the hall")
    return min([(sum([hall.weights[index] for index in lot]), lot) for lot in lots])


def _possible_lots(hall):
    """A list with True or False for the mask of each lot: whether its rest holds in some world."""
    tables = [hall.frame.base_table()]
    for mask in range(1, 1 << len(hall.claims)):
        table = tables[mask & (mask - 1)]
        lowest = (mask & -mask).bit_length() - 1
        tables.append(None if table is None else with_claim(table, hall.claims[lowest]))
    # The rest of a lot has the mask with all other bits, so the rests come in the opposite order.
    return [table is not None for table in reversed(tables)]
