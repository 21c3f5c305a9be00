"""Finite sets of integers, kept as runs of neighbours."""


class Runs:
    """A finite set of integers (point 6)."""

    def __init__(self, pairs):
        self.pairs = _maximal(pairs)

    def __contains__(self, x):
        return any(low <= x <= high for low, high in self.pairs)

    def __iter__(self):
        return iter(self.pairs)

    def __bool__(self):
        return bool(self.pairs)

    def __and__(self, other):
        return Runs(_common(self.pairs, other.pairs))

    def __or__(self, other):
        return Runs([*self.pairs, *other.pairs])

    def size(self):
        """How many integers belong to the set."""
        return sum(high - low + 1 for low, high in self.pairs)

    def least(self):
        """The least integer of the set, or None."""
        return self.pairs[0][0] if self.pairs else None

    def greatest(self):
        """The greatest integer of the set, or None."""
        return self.pairs[-1][1] if self.pairs else None

    def gaps(self):
        """The integers between the least and the greatest one that do not belong to the set."""
        return Runs([(left[1] + 1, right[0] - 1) for left, right in zip(self.pairs, self.pairs[1:])])


def _maximal(pairs):
    merged = []
    for low, high in sorted([(low, high) for low, high in pairs if low <= high]):
        # Runs that only touch are one run, too: no integer is missing between them.
        if merged and low <= merged[-1][1] + 1:
            merged[-1] = (merged[-1][0], max(merged[-1][1], high))
        else:
            merged.append((low, high))
    return tuple(merged)


def _common(first, second):
    common = []
    at = 0
    other = 0
    while at < len(first) and other < len(second):
        low = max(first[at][0], second[other][0])
        high = min(first[at][1], second[other][1])
        if low <= high:
            common.append((low, high))
        # The run that ends first has nothing in common with any later run.
        if first[at][1] < second[other][1]:
            at += 1
        else:
            other += 1
    return common
