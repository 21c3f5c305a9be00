"""Greatest flows along arcs, the ways that a flow takes, and cheapest flows through bands.

A step is a tuple (from, to, arc, amount, sign): so much can still pass there along the arc,
or, with the sign -1, be taken back from it.

A band is a tuple (first, second, low, high, most). Its flow leads from its first to its second
node, or back if it is negative. Each unit costs `high` on the way there and `-low` on the way
back; where the bound is None, nothing passes. The flow is from `-most` to `most`, or any number
if that is None. An open step through a band is a tuple (from, to, cost, band, sign, room): so much
can still pass there, any amount if the room is None.
"""


def greatest_flow(size, arcs, start, goal):
    """The greatest amount of a flow, the flow, and the side of the nodes that bounds it (point 57)."""
    flows = [0] * len(arcs)
    amount = 0
    came = _reached(_open_steps(arcs, flows), start)
    while goal in came:
        way = _way_to(came, goal)
        more = min([step[3] for step in way])
        for step in way:
            flows[step[2]] += step[4] * more
        amount += more
        came = _reached(_open_steps(arcs, flows), start)
    return amount, flows, sorted(came)


def flow_chains(size, arcs, flows, start, goal):
    """Ways from the start to the goal that carry the whole amount of the flow (point 58)."""
    left = list(flows)
    amount = _amount_from(arcs, flows, start)
    chains = []
    while amount > 0:
        steps = [(arc[0], arc[1], at, flow, 1) for at, (arc, flow) in enumerate(zip(arcs, left)) if flow > 0]
        way = _way_to(_reached(steps, start), goal)
        # Some flow may come back to the start, so a way may have room for more than the amount.
        part = min([amount, *[step[3] for step in way]])
        for step in way:
            left[step[2]] -= part
        chains.append((part, [step[2] for step in way]))
        amount -= part
    return chains


def cheapest_flows(size, bands):
    """Flows of the bands, in balance at each node, whose costs have the least sum.

    The bands with any flow have no ring with a negative cost among them.
    """
    flows = [0] * len(bands)
    known = [at for at, band in enumerate(bands) if band[4] is None]
    for at, band in enumerate(bands):
        if band[4] is not None:
            _fill(size, bands, flows, known, at)
            known.append(at)
    return flows


def open_steps(bands, flows, chosen):
    """The open steps through the chosen bands."""
    steps = []
    for at in chosen:
        steps.extend(_steps_through(bands[at], flows[at], at))
    return steps


def cost_of(bands, flows):
    """The sum of the costs of the flows of the bands."""
    forward = sum(flow * band[3] for band, flow in zip(bands, flows) if flow > 0)
    return forward + sum(flow * band[2] for band, flow in zip(bands, flows) if flow < 0)


def _fill(size, bands, flows, known, at):
    """Let flow pass a further band as long as this lowers the cost.

    No ring of open steps through the known bands has a negative cost. A shortest way back keeps this
    so, and it stays so with the further band when no way back makes up for it any more.
    """
    first, second, low, high, most = bands[at]
    if high is not None:
        _fill_to(size, bands, flows, known, (second, first, high, at, 1, most))
    if low is not None and flows[at] == 0:
        _fill_to(size, bands, flows, known, (first, second, -low, at, -1, most))


def _fill_to(size, bands, flows, known, band_step):
    start, goal, cost, at, sign, left = band_step
    while left > 0:
        costs, came = _cheapest_ways(size, open_steps(bands, flows, known), start)
        if costs[goal] is None or costs[goal] + cost >= 0:
            return
        way = _way_to(came, goal)
        more = min([left, *[step[5] for step in way if step[5] is not None]])
        for step in way:
            flows[step[3]] += step[4] * more
        flows[at] += sign * more
        left -= more


def _cheapest_ways(size, steps, start):
    """The least cost of a way to each node, None if there is none, and the last steps of such ways."""
    costs = [None] * size
    costs[start] = 0
    came = {start: None}
    changed = True
    while changed:
        changed = False
        for step in steps:
            if costs[step[0]] is not None:
                reached = costs[step[0]] + step[2]
                if costs[step[1]] is None or reached < costs[step[1]]:
                    costs[step[1]] = reached
                    came[step[1]] = step
                    changed = True
    return costs, came


def _steps_through(band, flow, at):
    first, second, low, high, most = band
    steps = []
    if flow < 0:
        steps.append((first, second, low, at, 1, -flow))
    elif high is not None and flow != most:
        steps.append((first, second, high, at, 1, None if most is None else most - flow))
    if flow > 0:
        steps.append((second, first, -high, at, -1, flow))
    elif low is not None and (most is None or flow != -most):
        steps.append((second, first, -low, at, -1, None if most is None else most + flow))
    return steps


def _open_steps(arcs, flows):
    steps = []
    for at, (tail, head, capacity) in enumerate(arcs):
        if flows[at] < capacity:
            steps.append((tail, head, at, capacity - flows[at], 1))
        if flows[at] > 0:
            steps.append((head, tail, at, flows[at], -1))
    return steps


def _reached(steps, start):
    """The nodes that the steps lead to from the start, each with the last step of a shortest way."""
    came = {start: None}
    known = 0
    while known < len(came):
        known = len(came)
        further = [step for step in steps if step[0] in came and step[1] not in came]
        for step in further:
            came.setdefault(step[1], step)
    return came


def _way_to(came, goal):
    way = []
    step = came[goal]
    while step is not None:
        way.append(step)
        step = came[step[0]]
    return way[::-1]


def _amount_from(arcs, flows, start):
    out = sum(flow for arc, flow in zip(arcs, flows) if arc[0] == start)
    return out - sum(flow for arc, flow in zip(arcs, flows) if arc[1] == start)
