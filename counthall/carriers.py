"""Which claims carry a bound, and which must be false to break it."""

from counthall.fitting import part_tables
from counthall.lots import largest_lots, needed_indexes
from counthall.masks import least_flagged, mask_of


def carriers(hall, first, second, high):
    """The ascending list of the least sets of claims that carry the bound (point 35)."""
    return least_flagged(carrying_flags(hall, first, second, high))


def breakers(hall, first, second, high):
    """The ascending list of the least sets of claims that break the bound (point 35)."""
    # A set breaks the bound if the other claims, whose mask has the opposite bits, do not carry it.
    return least_flagged([not carries for carries in reversed(carrying_flags(hall, first, second, high))])


def carrying_flags(hall, first, second, high):
    """For the mask of each set of claims, whether the set carries the bound."""
    return [table is None or table[first][second] <= high for table in part_tables(hall)]


def needed_carriers(hall, carries):
    """Least carrying sets that no allowed lot meets all of, or None if some lot leaves no carrying set.

    `carries` tells for the mask of each set whether it carries. None of the sets can be left out.
    """
    lots = [mask_of(lot) for lot in largest_lots(hall.doubt, hall.weights)]
    full = len(carries) - 1
    if not all(carries[full ^ lot] for lot in lots):
        return None
    sets = least_flagged(carries)
    needed = needed_indexes([mask_of(chosen) for chosen in sets], lots)
    return [sets[at] for at in needed]
