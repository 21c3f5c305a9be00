"""Results about ranks, sums, groups and seats: what carries them, and what speaks against them."""

from counthall.carriers import needed_carriers
from counthall.fitting import part_tables, rest_tables
from counthall.holders import rank_in, sum_in
from counthall.masks import less_one
from counthall.seatranges import seats_in
from counthall.tables import all_pinned_worlds, column_world, row_world


def holds_in(result, levels):
    """Whether the result holds in a world (point 47)."""
    kind = result[0]
    if kind == "rank":
        _, holders, node, places = result
        return rank_in(levels, holders, node) <= places
    if kind == "sum":
        _, nodes, most = result
        return sum_in(levels, nodes) <= most
    if kind == "reaches":
        _, group, node, lead = result
        return any(levels[other] >= levels[node] + lead for other in group)
    _, holders, node, seats, step, least = result
    return seats_in(levels, holders, node, seats, step) >= least


def grounds(hall, result):
    """Least sets that carry the result whichever lot is false, or None if it need not hold (point 47)."""
    carries = []
    for mask, table in enumerate(part_tables(hall)):
        # A set with a part that carries the result carries it, so its worlds need not be looked at.
        known = table is None or any(carries[part] for part in less_one(mask))
        carries.append(known or _world_against(result, table) is None)
    return needed_carriers(hall, carries)


def against(hall, result):
    """A largest lot and a fitting world in which the result does not hold, or None (point 47)."""
    for lot, table in rest_tables(hall):
        levels = None if table is None else _world_against(result, table)
        if levels is not None:
            return lot, levels
    return None


def _world_against(result, table):
    """A world of the table in which the result does not hold, or None."""
    for levels in _hardest_worlds(result, table):
        if not holds_in(result, levels):
            return levels
    return None


def _hardest_worlds(result, table):
    """Worlds of the table of which one is against the result if any world of the table is."""
    kind = result[0]
    if kind == "rank":
        return [row_world(table, result[2])]
    if kind == "sum":
        return [row_world(table, 0)]
    if kind == "reaches":
        return [column_world(table, result[2])]
    return [pair[1] for pair in all_pinned_worlds([table], result[2])]
