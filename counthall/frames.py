"""Frames: nodes, and rules about their differences that are never false."""

from counthall.errors import InvalidFrame

MOST_NODES = 16
MOST_RULES = 60


class Frame:
    """A number of nodes and the rules about them (points 7 and 8)."""

    def __init__(self, size, rules):
        kept = tuple([tuple(rule) for rule in rules])
        if not 1 <= size <= MOST_NODES:
            raise InvalidFrame("size")
        if len(kept) > MOST_RULES or not all(_is_rule(size, rule) for rule in kept):
            raise InvalidFrame("rules")
        if not is_connected(size, kept):
            raise InvalidFrame("open")
        table = _greatest_differences(size, kept)
        if any(table[node][node] < 0 for node in range(size)):
            raise InvalidFrame("clash")
        self.size = size
        self.rules = kept
        self._table = table

    def allows(self, levels):
        """Whether a list of any length is a world of the frame."""
        if len(levels) != self.size or levels[0] != 0:
            return False
        return all(low <= levels[second] - levels[first] <= high for first, second, low, high in self.rules)

    def base_table(self):
        """A new list of lists: the greatest difference of any two nodes in the worlds of the frame."""
        return [list(row) for row in self._table]


def _is_rule(size, rule):
    first, second, low, high = rule
    return 0 <= first < size and 0 <= second < size and first != second and low <= high


def is_connected(size, rules):
    reached = {0: True}
    # Each pass over the rules reaches a further node, unless no more can be reached.
    for _ in range(size):
        for rule in rules:
            if rule[0] in reached or rule[1] in reached:
                reached[rule[0]] = True
                reached[rule[1]] = True
    return len(reached) == size


def _greatest_differences(size, rules):
    # Farther than any chain of rules that comes to no node twice, with room for a chain back.
    far = 1 + 2 * sum(abs(rule[2]) + abs(rule[3]) for rule in rules)
    table = [[0 if node == other else far for other in range(size)] for node in range(size)]
    for first, second, low, high in rules:
        table[first][second] = min(table[first][second], high)
        table[second][first] = min(table[second][first], -low)
    for middle in range(size):
        beyond = table[middle]
        table = [[min(known, row[middle] + more) for known, more in zip(row, beyond)] for row in table]
    return table
