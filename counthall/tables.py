"""Closed tables: the greatest differences of all pairs of nodes."""

from counthall.errors import NoSuchNode


def check_nodes(frame, claims):
    """Raise NoSuchNode for the first claim that names a node that the frame does not have."""
    for index, claim in enumerate(claims):
        if max(claim.first, claim.second) >= frame.size:
            raise NoSuchNode(index)


def bounded(table, start, end, length):
    """The closed table of the worlds of a table in which a difference is at most a number, or None if there is none."""
    if table[end][start] + length < 0:
        return None
    if table[start][end] <= length:
        return table
    # A lesser difference passes the new bound exactly once, and a row that gains nothing
    # by passing it gains nothing behind it either.
    beyond = [length + more for more in table[end]]
    return [row if row[start] + length >= row[end] else _lowered(row, row[start], beyond) for row in table]


def with_claim(table, claim):
    """The closed table of the worlds of a table in which the claim holds, or None if there is none."""
    if claim.high is not None:
        table = bounded(table, claim.first, claim.second, claim.high)
    if claim.low is not None and table is not None:
        table = bounded(table, claim.second, claim.first, -claim.low)
    return table


def closed_table(frame, claims=()):
    """The table of the worlds of the frame in which all claims hold, or None (point 22)."""
    check_nodes(frame, claims)
    table = frame.base_table()
    for claim in claims:
        table = with_claim(table, claim)
        if table is None:
            return None
    return table


def in_table(table, levels):
    """Whether a list of levels is a world of the table (point 23)."""
    if levels[0] != 0:
        return False
    return all(
        level - start <= item
        for start, row in zip(levels, table)
        for level, item in zip(levels, row)
    )


def row_world(table, node):
    """The world in which all differences of the node and another one are greatest (point 23)."""
    return [level - table[node][0] for level in table[node]]


def column_world(table, node):
    """The world in which all differences of the node and another one are least (point 23)."""
    return [table[0][node] - row[node] for row in table]


def pinned_worlds(table, node, level):
    """The least and the greatest world of the table in which the node has this level, or None (point 24)."""
    if not -table[node][0] <= level <= table[0][node]:
        return None
    least = [max(-row[0], level - row[node]) for row in table]
    greatest = [min(high, level + more) for high, more in zip(table[0], table[node])]
    return least, greatest


def all_pinned_worlds(tables, node):
    """The pinned worlds of each table for each level that the node can have in it."""
    return [
        pinned_worlds(table, node, level)
        for table in tables
        for level in range(-table[node][0], table[0][node] + 1)
    ]


def difference_world(table, first, second, difference):
    """A world of the table in which two nodes have this difference, which they have in some world of it."""
    ways = [min(way, difference + more) for way, more in zip(table[first], table[second])]
    return [way - ways[0] for way in ways]


def column_mix(table, shifts):
    """The world that the columns of the table give when each is shifted by its number (point 25)."""
    tops = [max([shift - item for shift, item in zip(shifts, row)]) for row in table]
    return [top - tops[0] for top in tops]


def middle_worlds(first, second):
    """The two worlds halfway between two worlds, rounded down and rounded up (point 25)."""
    sums = [one + other for one, other in zip(first, second)]
    return [both // 2 for both in sums], [(both + 1) // 2 for both in sums]


def least_of(worlds):
    """The least level of each node in the worlds (point 25)."""
    return [min([levels[node] for levels in worlds]) for node in range(len(worlds[0]))]


def greatest_of(worlds):
    """The greatest level of each node in the worlds (point 25)."""
    return [max([levels[node] for levels in worlds]) for node in range(len(worlds[0]))]


def table_of(worlds):
    """The table of the greatest differences in the worlds (point 25)."""
    nodes = list(range(len(worlds[0])))
    return [[max([levels[other] - levels[node] for levels in worlds]) for other in nodes] for node in nodes]


def _lowered(row, way, beyond):
    return [min(known, way + more) for known, more in zip(row, beyond)]
