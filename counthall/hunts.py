"""Hunts: recounts that find the one false account."""

from counthall.accounts import levels_from, needed_suspects, without
from counthall.masks import mask_of


def hunt(size, accounts, prices=None):
    """The least price that finds the false account in the worst case, and a tree that does (point 83)."""
    found = needed_suspects(size, accounts)
    asks = _splitting_asks(size, accounts, found, prices)
    best = _best_splits(len(found), {mask: asks[mask][0] for mask in asks})
    full = len(best) - 1
    return best[full][0], _tree(found, asks, best, full)


def follow(tree, levels):
    """Where the tree ends in a world, and the pairs of nodes that are recounted on the way (point 84)."""
    asked = []
    while tree[0] == "ask":
        _, first, second, value, yes, no = tree
        asked.append((first, second))
        tree = yes if levels[second] - levels[first] == value else no
    return tree[1], asked


def _splitting_asks(size, accounts, found, prices):
    """The cheapest recount for each way to divide the suspects, as (price, first, second, value).

    The key is the mask of the places of those suspects with which the recount shows the value.
    """
    start = accounts[found[0]][0]
    cases = [levels_from(size, without(accounts, [index]), start) for index in found]
    nodes = [node for node in range(size) if cases[0][node] is not None]
    asks = {}
    for second in nodes:
        for first in range(second):
            if first in nodes:
                shown = [levels[second] - levels[first] for levels in cases]
                mask = mask_of([at for at, value in enumerate(shown) if value == shown[0]])
                ask = (_price(prices, first, second), first, second, shown[0])
                asks[mask] = min(ask, asks.get(mask, ask))
    return asks


def _price(prices, first, second):
    return 1 if prices is None else sum(prices[first:second])


def _best_splits(count, costs):
    """For the mask of each set of suspects, the price in the worst case and the mask to ask for first."""
    best = [None]
    for mask in range(1, 1 << count):
        if mask & (mask - 1) == 0:
            best.append((0, None))
        else:
            best.append(min([
                (cost + max(best[mask & ask][0], best[mask & ~ask][0]), ask)
                for ask, cost in costs.items() if mask & ask and mask & ~ask
            ]))
    return best


def _tree(found, asks, best, mask):
    ask = best[mask][1]
    if ask is None:
        return "found", found[mask.bit_length() - 1]
    _, first, second, value = asks[ask]
    yes = _tree(found, asks, best, mask & ask)
    return "ask", first, second, value, yes, _tree(found, asks, best, mask & ~ask)
