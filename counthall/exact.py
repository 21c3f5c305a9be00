"""One box whose exact number every claim tells."""

from counthall.lots import allowed_masks


def exact_counts(doubt, weights, values):
    """The ascending list of the told numbers that may be true, or None if any number may be (point 21)."""
    if doubt.allows(list(range(len(weights))), weights):
        return None
    return [value for value in sorted(set(values)) if doubt.allows(_others(values, value), weights)]


def parting_values(doubt, weights):
    """Numbers 0 and 1 for the claims that leave both possible, or None if there are none (point 21)."""
    allowed = allowed_masks(doubt, weights)
    full = len(allowed) - 1
    for mask in range(len(allowed)):
        # The claims of the mask tell 1 and the other ones 0, and either kind may be false.
        if allowed[mask] and allowed[full ^ mask]:
            return [mask >> index & 1 for index in range(len(weights))]
    return None


def _others(values, value):
    return [index for index, told in enumerate(values) if told != value]
