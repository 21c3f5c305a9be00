"""Ranks and sums of levels in the fitting worlds."""

from counthall.fitting import fitting_tables
from counthall.tables import column_world, row_world


def rank_in(levels, holders, node):
    """One more than the number of holders with a greater level than the node (point 40)."""
    return 1 + len([holder for holder in holders if levels[holder] > levels[node]])


def rank_range(hall, holders, node):
    """The best and the worst rank of the node in the fitting worlds (point 41)."""
    best, worst = rank_worlds(hall, holders, node)
    return rank_in(best, holders, node), rank_in(worst, holders, node)


def rank_worlds(hall, holders, node):
    """Two fitting worlds, one with the best and one with the worst rank of the node (point 41)."""
    tables = fitting_tables(hall)
    return _best_world(tables, holders, node), _worst_world(tables, holders, node)


def rank_ranges(hall, holders):
    """For each holder, in their order, its best and its worst rank in the fitting worlds."""
    tables = fitting_tables(hall)
    return [
        (node, rank_in(_best_world(tables, holders, node), holders, node),
         rank_in(_worst_world(tables, holders, node), holders, node))
        for node in holders
    ]


def sure_among(hall, holders, places):
    """The ascending list of the holders whose worst rank is within the places (point 41)."""
    tables = fitting_tables(hall)
    return [node for node in sorted(holders) if rank_in(_worst_world(tables, holders, node), holders, node) <= places]


def possible_among(hall, holders, places):
    """The ascending list of the holders whose best rank is within the places (point 41)."""
    tables = fitting_tables(hall)
    return [node for node in sorted(holders) if rank_in(_best_world(tables, holders, node), holders, node) <= places]


def shortfall(hall, group, node, lead=0):
    """A fitting world in which all of the group stay below the node's level plus the lead, or None (point 42)."""
    for table in fitting_tables(hall):
        # All levels of the group, seen from the node, are at once the least in this world.
        levels = column_world(table, node)
        if all(levels[other] < levels[node] + lead for other in group):
            return levels
    return None


def sum_range(hall, nodes):
    """The least and the greatest sum of the levels of the nodes in the fitting worlds (point 43)."""
    least, greatest = sum_worlds(hall, nodes)
    return sum_in(least, nodes), sum_in(greatest, nodes)


def sum_worlds(hall, nodes):
    """Two fitting worlds, one with the least and one with the greatest sum of levels (point 43)."""
    tables = fitting_tables(hall)
    # Levels are differences from node 0, so they are all least or all greatest at once.
    least = min([column_world(table, 0) for table in tables], key=lambda levels: sum_in(levels, nodes))
    greatest = max([row_world(table, 0) for table in tables], key=lambda levels: sum_in(levels, nodes))
    return least, greatest


def sum_in(levels, nodes):
    """The sum of the levels of the nodes in a world."""
    return sum(levels[node] for node in nodes)


def _best_world(tables, holders, node):
    worlds = [column_world(table, node) for table in tables]
    return min(worlds, key=lambda levels: rank_in(levels, holders, node))


def _worst_world(tables, holders, node):
    worlds = [row_world(table, node) for table in tables]
    return max(worlds, key=lambda levels: rank_in(levels, holders, node))
