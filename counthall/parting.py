"""How far two worlds can part although both fit what is told, whatever that is."""

from counthall.accounts import account_levels
from counthall.claims import Claim
from counthall.fitting import part_tables
from counthall.frames import Frame
from counthall.halls import Hall
from counthall.lots import largest_lots
from counthall.masks import mask_of, members_of
from counthall.tables import row_world


def parting(plan, doubt, first, second):
    """The greatest difference between two answers to one telling, and two lots that allow it (point 76)."""
    width, lot, other = _widest(plan, doubt, _tables_between(plan), first, second)
    return width, members_of(lot), members_of(other)


def parting_case(plan, doubt, first, second):
    """A telling and two worlds that fit it and part as far as possible (point 77)."""
    tables = _tables_between(plan)
    _, lot, other = _widest(plan, doubt, tables, first, second)
    full = len(tables) - 1
    # By so much the levels of the second world are above those of the first one.
    risen = row_world(tables[full ^ (lot | other)], first)
    levels = _levels_below(plan, risen)
    further = [level + more for level, more in zip(levels, risen)]
    telling = [
        _told(asking, levels, further, lot >> at & 1, other >> at & 1)
        for at, asking in enumerate(plan.askings)
    ]
    return telling, levels, further


def _tables_between(plan):
    """For the mask of each set of askings, the table of what can lie between two worlds that both meet them."""
    frame = Frame(plan.size, [(first, second, -room, room) for first, second, room in plan.limits])
    claims = [Claim(asking[0], asking[1], -asking[2], asking[2]) for asking in plan.askings]
    return part_tables(Hall(frame, claims))


def _widest(plan, doubt, tables, first, second):
    """The greatest width, and the masks of two largest lots that reach it."""
    lots = [mask_of(lot) for lot in largest_lots(doubt, plan.weights)]
    full = len(tables) - 1
    return max([(tables[full ^ (lot | other)][first][second], lot, other) for lot in lots for other in lots])


def _levels_below(plan, risen):
    """A world of the limits that is still one when its levels rise so much."""
    # The limits make a tree, so the difference of each can be chosen by itself.
    return account_levels(plan.size, [
        (first, second, max(0, risen[first] - risen[second])) for first, second, _ in plan.limits
    ])


def _told(asking, levels, further, is_false, is_false_further):
    """Bounds that hold in the first world unless they are false there, and likewise in the second one."""
    first, second, error, _ = asking
    value = levels[second] - levels[first]
    other = further[second] - further[first]
    if is_false:
        low = other
    elif is_false_further:
        low = value
    else:
        low = min(value, other)
    return low, low + error
