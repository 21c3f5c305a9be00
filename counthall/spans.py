"""Differences of two nodes in the fitting worlds."""

from counthall.fitting import fitting_tables
from counthall.runs import Runs
from counthall.tables import column_world, difference_world, row_world


def span(hall, first, second):
    """The least and the greatest difference of two nodes in the fitting worlds (point 31)."""
    values = possible_values(hall, first, second)
    return values.least(), values.greatest()


def possible_values(hall, first, second):
    """The differences that two nodes have in the fitting worlds (point 31)."""
    return Runs([(-table[second][first], table[first][second]) for table in fitting_tables(hall)])


def hull(hall):
    """The table of the greatest differences in the fitting worlds (point 32)."""
    tables = fitting_tables(hall)
    return [[max(items) for items in zip(*rows)] for rows in zip(*tables)]


def verdict(hall, first, second, low=None, high=None):
    """Whether a difference lies between two bounds, with a world for each answer (point 33)."""
    tables = fitting_tables(hall)
    supporting = _world_within(tables, first, second, low, high)
    return worded(supporting, _world_outside(tables, first, second, low, high))


def standings(hall):
    """For each claim, whether it holds in every fitting world, in none or in some (point 34)."""
    tables = fitting_tables(hall)
    return [_standing(tables, claim) for claim in hall.claims]


def worded(supporting, opposing):
    """The verdict that two worlds give, of which one may be None."""
    if opposing is None:
        return "certain", supporting, None
    if supporting is None:
        return "never", None, opposing
    return "open", supporting, opposing


def _standing(tables, claim):
    first, second, low, high, _ = claim.parts()
    if _world_outside(tables, first, second, low, high) is None:
        return "true"
    if _world_within(tables, first, second, low, high) is None:
        return "false"
    return "open"


def _world_within(tables, first, second, low, high):
    for table in tables:
        least = -table[second][first] if low is None else max(low, -table[second][first])
        greatest = table[first][second] if high is None else min(high, table[first][second])
        if least <= greatest:
            return difference_world(table, first, second, least)
    return None


def _world_outside(tables, first, second, low, high):
    for table in tables:
        if low is not None and -table[second][first] < low:
            return column_world(table, first)
        if high is not None and table[first][second] > high:
            return row_world(table, first)
    return None
