"""Recounts that settle whether a bound holds."""

from counthall.claims import Claim
from counthall.fitting import fitting_tables
from counthall.runs import Runs
from counthall.tables import column_world, row_world, with_claim


def settles(hall, first, second, high, start, goal):
    """None if the recount settles the bound; else a number that does not decide, and two worlds (point 85)."""
    tables = fitting_tables(hall)
    least = _undecided(tables, first, second, high, start, goal).least()
    if least is None:
        return None
    shown = Claim(start, goal, least, least)
    pinned = [with_claim(table, shown) for table in tables]
    # In these worlds the difference is at once as small, or as great, as it can be.
    holding = [column_world(table, first) for table in pinned if table is not None and -table[second][first] <= high]
    breaking = [row_world(table, first) for table in pinned if table is not None and table[first][second] > high]
    return least, holding[0], breaking[0]


def cheapest_settling(hall, first, second, high, offers):
    """The price and the index of the cheapest recount that settles the bound, or None (point 85)."""
    tables = fitting_tables(hall)
    return min([
        (price, index) for index, (start, goal, price) in enumerate(offers)
        if not _undecided(tables, first, second, high, start, goal)
    ], default=None)


def _undecided(tables, first, second, high, start, goal):
    """The numbers that the recount can show while the bound may hold and may not hold."""
    holding = Runs([_shown_with(table, second, first, -high, start, goal) for table in tables])
    # The bound does not hold if the difference of the nodes is at least one more.
    return holding & Runs([_shown_with(table, first, second, high + 1, start, goal) for table in tables])


def _shown_with(table, first, second, least, start, goal):
    """The least and the greatest number that the recount can show while a difference is at least so great.

    The least one is above the greatest one if there is no such number.
    """
    if table[first][second] < least:
        return 1, 0
    # The greatest difference that goes with a shown number is that of the table, or that of a way
    # which passes the recount forward, or of one which passes it backward.
    low = max(-table[goal][start], least - table[first][start] - table[goal][second])
    return low, min(table[start][goal], table[first][goal] + table[start][second] - least)
