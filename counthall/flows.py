"""Greatest flows along arcs, and the ways that a flow takes.

A step is a tuple (from, to, arc, amount, sign): so much can still pass there along the arc,
or, with the sign -1, be taken back from it.
"""


def greatest_flow(size, arcs, start, goal):
    """The greatest amount of a flow, the flow, and the side of the nodes that bounds it (point 57)."""
    flows = [0] * len(arcs)
    amount = 0
    came = _reached(_open_steps(arcs, flows), start)
    while goal in came:
        way = _way_to(came, goal)
        more = min([step[3] for step in way])
        for step in way:
            flows[step[2]] += step[4] * more
        amount += more
        came = _reached(_open_steps(arcs, flows), start)
    return amount, flows, sorted(came)


def flow_chains(size, arcs, flows, start, goal):
    """Ways from the start to the goal that carry the whole amount of the flow (point 58)."""
    left = list(flows)
    amount = _amount_from(arcs, flows, start)
    chains = []
    while amount > 0:
        steps = [(arc[0], arc[1], at, flow, 1) for at, (arc, flow) in enumerate(zip(arcs, left)) if flow > 0]
        way = _way_to(_reached(steps, start), goal)
        # Some flow may come back to the start, so a way may have room for more than the amount.
        part = min([amount, *[step[3] for step in way]])
        for step in way:
            left[step[2]] -= part
        chains.append((part, [step[2] for step in way]))
        amount -= part
    return chains


def _open_steps(arcs, flows):
    steps = []
    for at, (tail, head, capacity) in enumerate(arcs):
        if flows[at] < capacity:
            steps.append((tail, head, at, capacity - flows[at], 1))
        if flows[at] > 0:
            steps.append((head, tail, at, flows[at], -1))
    return steps


def _reached(steps, start):
    """The nodes that the steps lead to from the start, each with the last step of a shortest way."""
    came = {start: None}
    known = 0
    while known < len(came):
        known = len(came)
        further = [step for step in steps if step[0] in came and step[1] not in came]
        for step in further:
            came.setdefault(step[1], step)
    return came


def _way_to(came, goal):
    way = []
    step = came[goal]
    while step is not None:
        way.append(step)
        step = came[step[0]]
    return way[::-1]


def _amount_from(arcs, flows, start):
    out = sum(flow for arc, flow in zip(arcs, flows) if arc[0] == start)
    return out - sum(flow for arc, flow in zip(arcs, flows) if arc[1] == start)
