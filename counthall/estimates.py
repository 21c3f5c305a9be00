"""Estimates: claims about one fixed count."""

from counthall.runs import Runs


def untrue_weight(estimates, value):
    """The sum of the weights of the estimates that the value is not in (point 48)."""
    return sum(weight for low, high, weight in estimates if not low <= value <= high)


def weight_pieces(estimates, first, last):
    """The maximal runs of neighbours with equal untrue weight, as (low, high, weight) (point 48)."""
    pieces = []
    for low, high in _even_runs(estimates, first, last):
        weight = untrue_weight(estimates, low)
        if pieces and pieces[-1][2] == weight:
            pieces[-1] = (pieces[-1][0], high, weight)
        else:
            pieces.append((low, high, weight))
    return pieces


def heaviest(estimates):
    """The greatest weight of estimates that share a value, and the first run of such values (point 48)."""
    if not estimates:
        return 0, None, None
    pieces = weight_pieces(estimates, _lowest(estimates), _highest(estimates))
    low, high, untrue = min(pieces, key=lambda piece: piece[2])
    return sum(estimate[2] for estimate in estimates) - untrue, low, high


def fused(estimates, count):
    """The values that at most so many estimates do not have in them, or None if all are (point 49)."""
    if len(estimates) <= count:
        return None
    equal = [(low, high, 1) for low, high, _ in estimates]
    pieces = weight_pieces(equal, _lowest(equal), _highest(equal))
    return Runs([(low, high) for low, high, untrue in pieces if untrue <= count])


def fused_under(estimates, doubt):
    """The values for which the doubt allows the untrue estimates as a lot, or None if all are (point 49)."""
    weights = [estimate[2] for estimate in estimates]
    if doubt.allows(list(range(len(estimates))), weights):
        return None
    runs = _even_runs(estimates, _lowest(estimates), _highest(estimates))
    return Runs([run for run in runs if doubt.allows(_untrue(estimates, run[0]), weights)])


def middle_span(estimates):
    """The least cost of a value, and the least and the greatest value that has it (point 52)."""
    bounds = []
    for low, high, weight in estimates:
        bounds.extend([low, high] * weight)
    bounds = sorted(bounds)
    middle = len(bounds) // 2
    return _cost(estimates, bounds[middle]), bounds[middle - 1], bounds[middle]


def _lowest(estimates):
    return min([estimate[0] for estimate in estimates])


def _highest(estimates):
    return max([estimate[1] for estimate in estimates])


def _even_runs(estimates, first, last):
    """Runs from first to last within which no estimate begins or ends."""
    starts = {low: True for low, _, _ in estimates}
    starts.update({high + 1: True for _, high, _ in estimates})
    inner = sorted([start for start in starts if first < start <= last])
    if first > last:
        return []
    return list(zip([first, *inner], [*[start - 1 for start in inner], last]))


def _untrue(estimates, value):
    return [index for index, (low, high, _) in enumerate(estimates) if not low <= value <= high]


def _cost(estimates, value):
    return sum(weight * max(low - value, value - high, 0) for low, high, weight in estimates)
