"""Ladders of estimates that exclude each other, and least clashing sets."""

from counthall.estimates import heaviest


def ladders(estimates):
    """As few ladders as possible in which each index occurs as often as its weight says (point 50)."""
    rows = []
    tops = []
    for _, index in sorted([(estimate[0], index) for index, estimate in enumerate(estimates)]):
        low, high, weight = estimates[index]
        # A new ladder begins only if all others reach this low, so each of them has it in its last estimate.
        free = [at for at, top in enumerate(tops) if top < low][:weight]
        for at in free:
            rows[at].append(index)
            tops[at] = high
        rows.extend([[index] for _ in range(weight - len(free))])
        tops.extend([high] * (weight - len(free)))
    return rows


def accepts_ladders(estimates, rows):
    """Whether the rows are ladders and contain each index as often as its weight says (point 50)."""
    if not all(_is_ladder(estimates, row) for row in rows):
        return False
    found = [0] * len(estimates)
    for row in rows:
        for index in row:
            found[index] += 1
    return found == [estimate[2] for estimate in estimates]


def least_clash(estimates, count):
    """A set of estimates that clashes under the count and of which no other part does, or None (point 51)."""
    kept = list(range(len(estimates)))
    if not _clashes(estimates, kept, count):
        return None
    for index in reversed(range(len(estimates))):
        fewer = [other for other in kept if other != index]
        if _clashes(estimates, fewer, count):
            kept = fewer
    return kept


def _is_ladder(estimates, row):
    if not row or not all(0 <= index < len(estimates) for index in row):
        return False
    return all(estimates[index][1] < estimates[further][0] for index, further in zip(row, row[1:]))


def _clashes(estimates, chosen, count):
    together = heaviest([(estimates[index][0], estimates[index][1], 1) for index in chosen])[0]
    return len(chosen) - together > count
