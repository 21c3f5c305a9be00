"""Boxes in a row, in a ring and on a stand, read as frames and claims."""

from counthall.claims import Claim
from counthall.errors import InvalidClaim, InvalidFrame
from counthall.frames import Frame

MOST_BOXES = 15


def row_frame(rooms):
    """The frame of boxes in a row with these rooms (point 10)."""
    _check_rooms(rooms)
    return Frame(len(rooms) + 1, _row_rules(rooms))


def ring_frame(rooms, total):
    """The frame of boxes in a ring with these rooms and this total (point 11)."""
    _check_rooms(rooms)
    # A total that the rooms cannot hold leaves no world, which the frame refuses as a clash.
    return Frame(len(rooms) + 1, [*_row_rules(rooms), (0, len(rooms), total, total)])


def stand_frame(rooms):
    """The frame of boxes that are counted one by one (point 12)."""
    _check_rooms(rooms)
    return Frame(len(rooms) + 1, [(0, box + 1, 0, room) for box, room in enumerate(rooms)])


def row_levels(counts):
    """The levels of the borders of a row that holds these counts."""
    levels = [0]
    for count in counts:
        levels.append(levels[-1] + count)
    return levels


def row_counts(levels):
    """The counts of the boxes of a row with these levels."""
    return [right - left for left, right in zip(levels, levels[1:])]


def stand_levels(counts):
    """The levels of the nodes of a stand that holds these counts."""
    return [0, *counts]


def stand_counts(levels):
    """The counts of the boxes of a stand with these levels."""
    return list(levels[1:])


def run_claim(start, stop, low=None, high=None, *, weight=1):
    """The claim about the sum of neighbouring boxes of a row (point 10)."""
    if not 0 <= start <= stop <= MOST_BOXES:
        raise InvalidClaim("nodes")
    return Claim(start, stop, low, high, weight=weight)


def arc_claim(boxes, total, start, length, low=None, high=None, *, weight=1):
    """The claim about the sum of neighbouring boxes of a ring (point 11)."""
    if not (1 <= boxes <= MOST_BOXES and 0 <= start < boxes and 0 <= length <= boxes):
        raise InvalidClaim("nodes")
    if start + length <= boxes:
        return Claim(start, start + length, low, high, weight=weight)
    # The arc passes the end of the row: the boxes outside of it make a run of the row.
    least = None if high is None else total - high
    greatest = None if low is None else total - low
    return Claim(start + length - boxes, start, least, greatest, weight=weight)


def count_claim(box, low=None, high=None, *, weight=1):
    """The claim about the count of one box of a stand (point 12)."""
    _check_box(box)
    return Claim(0, box + 1, low, high, weight=weight)


def lead_claim(box, other, low=None, high=None, *, weight=1):
    """The claim about how many more things one box of a stand holds than another one (point 12)."""
    _check_box(box)
    _check_box(other)
    return Claim(other + 1, box + 1, low, high, weight=weight)


def cell_run(kinds, box, kind=None):
    """The start and the stop of the cells of one kind, or of all kinds, in a box (point 13)."""
    if kind is None:
        return box * kinds, (box + 1) * kinds
    return box * kinds + kind, box * kinds + kind + 1


def _check_rooms(rooms):
    if not 1 <= len(rooms) <= MOST_BOXES:
        raise InvalidFrame("size")
    if min(rooms) < 0:
        raise InvalidFrame("rules")


def _check_box(box):
    if not 0 <= box < MOST_BOXES:
        raise InvalidClaim("nodes")


def _row_rules(rooms):
    return [(box, box + 1, 0, room) for box, room in enumerate(rooms)]
