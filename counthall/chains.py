"""Chains: links of rules and claims that bound a difference, one behind the other."""

from counthall.errors import BrokenChain, Clash
from counthall.tables import check_nodes, closed_table


def chain_end(frame, claims, start, chain):
    """The end and the total of a chain that begins at a node (point 27)."""
    check_nodes(frame, claims)
    node = start
    total = 0
    for index, link in enumerate(chain):
        step = _step(frame, claims, link)
        if step is None or step[0] != node:
            raise BrokenChain(index)
        node = step[1]
        total += step[2]
    return node, total


def clash_ring(frame, claims):
    """A node and a ring from there with a negative total, or None if a world is possible (point 27)."""
    check_nodes(frame, claims)
    steps = _steps(frame, claims)
    levels = [0] * frame.size
    last_steps = [None] * frame.size
    lowered = None
    for _ in range(frame.size):
        lowered = _lower(steps, levels, last_steps)
        if lowered is None:
            return None
    return _ring_behind(last_steps, lowered)


def least_chain(frame, claims, first, second):
    """The greatest difference of two nodes and a chain that has it as its total (point 27)."""
    table = closed_table(frame, claims)
    if table is None:
        start, ring = clash_ring(frame, claims)
        raise Clash(start, ring)
    totals = table[first]
    # Chains with the least totals consist of steps that lose nothing against the table.
    tight = [step for step in _steps(frame, claims) if totals[step[0]] + step[2] == totals[step[1]]]
    chains = {first: []}
    while second not in chains:
        for start, end, _, link in tight:
            if start in chains and end not in chains:
                chains[end] = [*chains[start], link]
    return totals[second], chains[second]


def renumbered(chain, numbers):
    """The chain with another number for each of its claims, the item of a list at the claim's index."""
    return [
        (source, numbers[index] if source == "claim" else index, direction)
        for source, index, direction in chain
    ]


def _step(frame, claims, link):
    """The start, the end and the length of a link, and the link itself; None if it does not exist."""
    source, index, direction = link
    if source == "rule" and 0 <= index < len(frame.rules):
        first, second, low, high = frame.rules[index]
    elif source == "claim" and 0 <= index < len(claims):
        first, second, low, high, _ = claims[index].parts()
    else:
        return None
    if direction == "up" and high is not None:
        return first, second, high, link
    if direction == "down" and low is not None:
        return second, first, -low, link
    return None


def _steps(frame, claims):
    places = [("rule", index) for index in range(len(frame.rules))]
    places.extend([("claim", index) for index in range(len(claims))])
    links = [(source, index, direction) for source, index in places for direction in ("up", "down")]
    steps = [_step(frame, claims, link) for link in links]
    return [step for step in steps if step is not None]


def _lower(steps, levels, last_steps):
    """Lower each level that is too high behind some step; return the last such node, or None."""
    lowered = None
    for step in steps:
        reached = levels[step[0]] + step[2]
        if reached < levels[step[1]]:
            levels[step[1]] = reached
            last_steps[step[1]] = step
            lowered = step[1]
    return lowered


def _ring_behind(last_steps, node):
    # Levels that still fall after as many rounds as there are nodes fall because of a ring,
    # and as many steps back lead into it.
    start = node
    for _ in last_steps:
        start = last_steps[start][0]
    links = [last_steps[start][3]]
    node = last_steps[start][0]
    while node != start:
        links.append(last_steps[node][3])
        node = last_steps[node][0]
    return start, links[::-1]
