"""Ties: claims that bind two nodes in both directions."""

from counthall.flows import flow_chains, greatest_flow


def tied(size, ties, first, second):
    """How strongly ties bind two nodes, ways that show it, and a side that bounds it (point 61)."""
    if first == second:
        return None, [], []
    back = [(end, start, weight) for start, end, weight in ties]
    strength, flows, side = greatest_flow(size, [*ties, *back], first, second)
    # What passes a tie in both directions takes nothing anywhere.
    passed = [there - again for there, again in zip(flows, flows[len(ties):])]
    arcs = [tie if flow >= 0 else turned for tie, turned, flow in zip(ties, back, passed)]
    return strength, flow_chains(size, arcs, [abs(flow) for flow in passed], first, second), side


def strength_tree(size, ties):
    """A tree of nodes whose strengths tell those of all pairs of nodes (point 62)."""
    parents = [0] * size
    for node in range(1, size):
        goal = parents[node]
        side = tied(size, ties, node, goal)[2]
        for other in side:
            if other != node and parents[other] == goal:
                parents[other] = node
        # If the side takes the goal's parent away from it, the goal hangs below the node.
        if parents[goal] in side:
            parents[node] = parents[goal]
            parents[goal] = node
    sides = [_side_of(parents, node) for node in range(size)]
    return [(node, parents[node], _weight_between(ties, sides[node]), sides[node]) for node in range(1, size)]


def tree_strength(tree, first, second):
    """The least strength on the way between two nodes in the tree, or None for one node (point 62)."""
    # The way passes from a node to its parent, or back, exactly if it leaves or enters the node's side.
    return min([entry[2] for entry in tree if (first in entry[3]) != (second in entry[3])], default=None)


def borne(tree, first, second):
    """How many of exact claims may be false while a difference stays known, or None (point 62)."""
    strength = tree_strength(tree, first, second)
    return None if strength is None else (strength - 1) // 2


def _side_of(parents, node):
    return [other for other in range(len(parents)) if node in _way_up(parents, other)]


def _way_up(parents, node):
    way = [node]
    while node != 0:
        node = parents[node]
        way.append(node)
    return way


def _weight_between(ties, side):
    return sum(weight for first, second, weight in ties if (first in side) != (second in side))
