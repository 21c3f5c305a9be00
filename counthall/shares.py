"""Shares of a sum of levels."""

from counthall.fitting import fitting_tables
from counthall.holders import sum_in
from counthall.spans import worded
from counthall.tables import all_pinned_worlds


def share_verdict(hall, holders, node, part, whole):
    """Whether the node has this share of the levels of the holders, with a world for each answer (point 44)."""
    pairs = all_pinned_worlds(fitting_tables(hall), node)
    # For each level of the node the others take the least of the sum first, and the most of it last.
    supporting = [pair[0] for pair in pairs if _has_share(pair[0], holders, node, part, whole)]
    opposing = [pair[1] for pair in pairs if not _has_share(pair[1], holders, node, part, whole)]
    return worded(supporting[0] if supporting else None, opposing[0] if opposing else None)


def _has_share(levels, holders, node, part, whole):
    return whole * levels[node] >= part * sum_in(levels, holders)
