"""Largest lots, least sure groups, and sets that hit or cover others."""

from counthall.masks import least_flagged, less_one, mask_of, members_of


def allowed_masks(doubt, weights):
    """A list with True or False for the mask of each lot of claims with these weights."""
    allowed = [True]
    for mask in range(1, 1 << len(weights)):
        # A lot with a part that is not allowed is not allowed, so the doubt need not be asked.
        allowed.append(allowed[mask & (mask - 1)] and doubt.allows(members_of(mask), weights))
    return allowed


def largest_lots(doubt, weights):
    """The ascending list of the allowed lots that no other allowed lot contains (point 18)."""
    allowed = allowed_masks(doubt, weights)
    full = len(allowed) - 1
    largest = [
        mask for mask in range(len(allowed))
        if allowed[mask] and not any(allowed[mask | 1 << index] for index in members_of(full ^ mask))
    ]
    return sorted([members_of(mask) for mask in largest])


def least_sure_groups(doubt, weights):
    """The ascending list of the sure groups of which no other part is sure (point 18)."""
    return least_flagged([not allowed for allowed in allowed_masks(doubt, weights)])


def least_sets(sets):
    """The ascending list of the given sets that contain no other given set (point 19)."""
    masks = sorted({mask_of(given) for given in sets})
    least = [mask for mask in masks if not any(part != mask and (part & mask) == part for part in masks)]
    return sorted([members_of(mask) for mask in least])


def hitting_sets(sets):
    """The ascending list of the least sets that have a member in common with each given set (point 19)."""
    numbers = sorted({number for given in sets for number in given})
    places = {number: place for place, number in enumerate(numbers)}
    given_masks = {mask_of([places[number] for number in given]): True for given in sets}
    full = (1 << len(numbers)) - 1
    containing = []
    for mask in range(full + 1):
        containing.append(mask in given_masks or any(containing[part] for part in less_one(mask)))
    # A set hits all given sets if none of them lies wholly outside of it.
    hits = [not containing[full ^ mask] for mask in range(full + 1)]
    return [[numbers[place] for place in found] for found in least_flagged(hits)]


def needed_indexes(masks, lots):
    """The indexes of some of the masks that no lot meets all of, none of which can be left out.

    Both are lists of masks, and no lot has a member in common with all of the given masks.
    """
    missed = [mask_of([at for at, mask in enumerate(masks) if not mask & lot]) for lot in lots]
    kept = (1 << len(masks)) - 1
    for at in range(len(masks)):
        fewer = kept & ~(1 << at)
        if all(misses & fewer for misses in missed):
            kept = fewer
    return members_of(kept)


def least_cover(doubt, weights):
    """The least number of allowed lots that contain all claims, with such lots, or None (point 20)."""
    lots = [mask_of(lot) for lot in largest_lots(doubt, weights)]
    covers = [[]]
    for mask in range(1, 1 << len(weights)):
        # Some lot must contain the lowest claim, so it is enough to try those that do.
        fitting = [lot for lot in lots if mask & -mask & lot and covers[mask & ~lot] is not None]
        choices = [[*covers[mask & ~lot], lot] for lot in fitting]
        covers.append(min(choices, key=len, default=None))
    cover = covers[-1]
    if cover is None:
        return None
    return len(cover), sorted([members_of(lot) for lot in cover])
