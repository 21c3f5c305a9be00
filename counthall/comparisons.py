"""Comparisons: claims that one node has at least the level of another one."""

from counthall.flows import flow_chains, greatest_flow


def carried(size, comparisons, first, second):
    """How strongly comparisons carry that the first node is not below the second one (point 59)."""
    if first == second:
        return None, [], []
    strength, flows, side = greatest_flow(size, comparisons, first, second)
    chains = flow_chains(size, comparisons, flows, first, second)
    cut = [at for at, (upper, lower, _) in enumerate(comparisons) if upper in side and lower not in side]
    return strength, chains, cut


def lesser_counts(size, comparisons, first, second, limit):
    """Comparisons within the limit and counts against them in which the first node has less (point 60)."""
    if first == second:
        return None
    strength, _, side = greatest_flow(size, comparisons, first, second)
    if strength > limit:
        return None
    counts = [0 if node in side else 1 for node in range(size)]
    return [at for at, (upper, lower, _) in enumerate(comparisons) if counts[upper] < counts[lower]], counts


def group_strength(size, comparisons, group, node):
    """The least weight of comparisons without which no way leads from the group to the node (point 60)."""
    if node in group:
        return None
    # A further node leads to the whole group, with more than all comparisons can carry.
    plenty = 1 + sum(comparison[2] for comparison in comparisons)
    arcs = [*comparisons, *[(size, member, plenty) for member in group]]
    return greatest_flow(size + 1, arcs, size, node)[0]
