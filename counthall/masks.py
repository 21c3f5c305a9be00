"""Sets of indexes as masks: integers in which bit i stands for index i."""


def mask_of(members):
    """The mask of a list of different indexes."""
    return sum(1 << member for member in members)


def members_of(mask):
    """The set of the indexes of a mask."""
    return [at for at in range(mask.bit_length()) if mask >> at & 1]


def less_one(mask):
    """The masks that have one index less."""
    return [mask ^ (1 << at) for at in members_of(mask)]


def least_flagged(flags):
    """The ascending list of the sets whose mask is flagged while no mask with one index less is."""
    least = [mask for mask in range(len(flags)) if flags[mask] and not any(flags[part] for part in less_one(mask))]
    return sorted([members_of(mask) for mask in least])
