"""How many seats holders get in the fitting worlds."""

from counthall.fitting import fitting_tables
from counthall.seats import divide
from counthall.tables import all_pinned_worlds


def seat_range(hall, holders, node, seats, *, step=1):
    """The least and the greatest number of seats of the node in the fitting worlds (point 46)."""
    fewest, most = _extremes(fitting_tables(hall), holders, node, seats, step)
    return fewest[0], most[0]


def seat_worlds(hall, holders, node, seats, *, step=1):
    """Two fitting worlds, one with the least and one with the greatest number of seats (point 46)."""
    fewest, most = _extremes(fitting_tables(hall), holders, node, seats, step)
    return fewest[1], most[1]


def sure_seats(hall, holders, seats, *, step=1):
    """The least and the greatest number of seats of each holder, in their order (point 46)."""
    tables = fitting_tables(hall)
    ranges = []
    for node in holders:
        fewest, most = _extremes(tables, holders, node, seats, step)
        ranges.append((fewest[0], most[0]))
    return ranges


def seats_in(levels, holders, node, seats, step):
    """How many seats the node gets in a world."""
    return divide([levels[holder] for holder in holders], seats, step=step)[holders.index(node)]


def _extremes(tables, holders, node, seats, step):
    """The least and the greatest number of seats, each with a world that has it."""
    pairs = all_pinned_worlds(tables, node)
    low_cases = [(seats_in(pair[1], holders, node, seats, step), pair[1]) for pair in pairs]
    high_cases = [(seats_in(pair[0], holders, node, seats, step), pair[0]) for pair in pairs]
    return min(low_cases), max(high_cases)
