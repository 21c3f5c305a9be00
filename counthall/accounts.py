"""Accounts: exact claims of which one may be false."""

from counthall.errors import NoSuspect, NotSuspect


def account_levels(size, accounts):
    """The levels that meet all accounts, or None if there are none (point 79)."""
    levels = [None] * size
    for node in range(size):
        if levels[node] is None:
            levels[node] = 0
            _spread(levels, accounts)
    if any(levels[second] - levels[first] != value for first, second, value in accounts):
        return None
    return levels


def suspects(size, accounts):
    """The set of the accounts without which the others agree, or None if all agree (point 80)."""
    if account_levels(size, accounts) is not None:
        return None
    return [index for index in range(len(accounts)) if account_levels(size, without(accounts, [index])) is not None]


def corrected(size, accounts, index):
    """What a suspect would have to tell for all accounts to agree (point 81)."""
    if index not in (suspects(size, accounts) or []):
        raise NotSuspect(index)
    first, second, _ = accounts[index]
    return levels_from(size, without(accounts, [index]), first)[second]


def suspect_ring(size, accounts):
    """The suspects round their ring, the areas between them, and the gap of the ring (point 82)."""
    left = list(needed_suspects(size, accounts))
    others = without(accounts, left)
    order = [left.pop(0)]
    start, node, gap = accounts[order[0]]
    areas = []
    while len(areas) < len(order):
        levels = levels_from(size, others, node)
        areas.append([other for other in range(size) if levels[other] is not None])
        leaving = [index for index in left if _leads_from(levels, accounts[index])]
        if leaving:
            left.remove(leaving[0])
            order.append(leaving[0])
            tail, node, value = _forward(levels, accounts[leaving[0]])
            gap += levels[tail] + value
        else:
            gap += levels[start]
    return order, areas, gap


def needed_suspects(size, accounts):
    """The suspects; NoSuspect if there are none."""
    found = suspects(size, accounts)
    if not found:
        raise NoSuspect("no single account can be the false one")
    return found


def without(accounts, indexes):
    """The accounts without those with these indexes."""
    return [account for index, account in enumerate(accounts) if index not in indexes]


def levels_from(size, accounts, node):
    """The levels that accounts give to the nodes connected with a node, which has 0; None for the others."""
    levels = [None] * size
    levels[node] = 0
    _spread(levels, accounts)
    return levels


def _spread(levels, accounts):
    """Give levels to all nodes that accounts connect with nodes that have one."""
    for _ in range(len(levels)):
        for first, second, value in accounts:
            if levels[second] is None and levels[first] is not None:
                levels[second] = levels[first] + value
            elif levels[first] is None and levels[second] is not None:
                levels[first] = levels[second] - value


def _leads_from(levels, account):
    return levels[account[0]] is not None or levels[account[1]] is not None


def _forward(levels, account):
    """The account, turned if only its second node has a level."""
    first, second, value = account
    return account if levels[first] is not None else (second, first, -value)
