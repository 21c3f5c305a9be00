"""Least prices of counts for leads, ranks and seats."""


def lead_price(curves, first, second, lead):
    """The least price of counts in which the first box holds so much more than the second (point 55)."""
    pairs = [
        (cost + other_cost, count, other_count)
        for count, cost in enumerate(curves[first])
        for other_count, other_cost in enumerate(curves[second])
        if count - other_count >= lead
    ]
    if not pairs:
        return None
    least = min(pairs)
    return _cheapest_with(curves, {first: least[1], second: least[2]})


def rank_price(curves, box, rank):
    """The least price of counts in which so many other boxes hold more (point 55)."""
    answers = []
    for count in range(len(curves[box])):
        risen = sorted([
            _risen(costs, other, count)
            for other, costs in enumerate(curves)
            if other != box and len(costs) > count + 1
        ])
        if len(risen) >= rank - 1:
            fixed = {other: greater for extra, other, greater in risen[:rank - 1]}
            fixed[box] = count
            answers.append(_cheapest_with(curves, fixed))
    return min(answers, default=None)


def few_seats_price(curves, box, seats, most, *, step=1):
    """The least price of counts for which the box gets at most so many seats (point 56)."""
    # The box gets no further seat if the others take all that are left by then.
    needed = seats - most
    answers = []
    for count in range(len(curves[box])):
        if count == 0 or needed <= 0:
            answers.append(_cheapest_with(curves, {box: count}))
        else:
            found = _cheapest_by_seats(curves, box, count, most, step, needed)
            answers.extend([found[taken] for taken in found if taken >= needed])
    return min(answers, default=None)


def many_seats_price(curves, box, seats, least, *, step=1):
    """The least price of counts for which the box gets at least so many seats (point 56)."""
    if least <= 0:
        return _cheapest_with(curves, {})
    # The box gets its last one of these seats if the others take no more than the remaining ones before.
    remaining = seats - least
    answers = []
    for count in range(1, len(curves[box])):
        found = _cheapest_by_seats(curves, box, count, least - 1, step, max(0, remaining + 1))
        answers.extend([found[taken] for taken in found if taken <= remaining])
    return min(answers, default=None)


def _cheapest_with(curves, fixed):
    """The price and the counts if some boxes hold these counts and the others what is cheapest."""
    counts = [fixed[box] if box in fixed else costs.index(min(costs)) for box, costs in enumerate(curves)]
    return sum(costs[count] for costs, count in zip(curves, counts)), counts


def _risen(costs, other, count):
    """What it costs that another box holds more than the count, the box, and how much it holds then."""
    cost, greater = min([(cost, held) for held, cost in enumerate(costs) if held > count])
    return cost - min(costs), other, greater


def _cheapest_by_seats(curves, box, count, had, step, most):
    """The cheapest counts for each number of seats that others take before the box takes one more.

    The box holds the count, which is above 0, and has had so many seats. The answer is a dict of
    prices with counts. Numbers above `most` count as `most`.
    """
    divisor = 1 + step * had
    found = {0: (0, [])}
    for other, costs in enumerate(curves):
        if other == box:
            options = [(0, costs[count], count)]
        else:
            options = [
                (_seats_before(held, count, divisor, other < box, step), cost, held)
                for held, cost in enumerate(costs)
            ]
        found = _extended(found, options, most)
    return found


def _extended(found, options, most):
    extended = {}
    for taken, (spent, counts) in found.items():
        for more, cost, count in options:
            total = min(most, taken + more)
            if total not in extended or spent + cost < extended[total][0]:
                extended[total] = (spent + cost, [*counts, count])
    return extended


def _seats_before(held, count, divisor, comes_first, step):
    """How many quotients of a box that holds so much come before the quotient of count and divisor."""
    # An equal quotient comes before only if its box has the lesser number.
    product = held * divisor if comes_first else held * divisor - 1
    return max(0, (product // count - 1) // step + 1)
