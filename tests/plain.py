"""Plain searches through all cases, and small random inputs, for the tests."""

from itertools import combinations, product
from random import Random

from counthall.claims import Claim
from counthall.doubts import AtMost, Lots, Within
from counthall.errors import InvalidFrame, NoWorld
from counthall.frames import Frame
from counthall.halls import Hall


def subsets(count):
    """All sets of the numbers below the count, as ascending lists."""
    return [list(chosen) for size in range(count + 1) for chosen in combinations(range(count), size)]


def minimal(sets):
    """The ascending list of the sets of which no other part is in the list."""
    return sorted(one for one in sets if not any(set(other) < set(one) for other in sets))


def maximal(sets):
    """The ascending list of the sets that no other set of the list contains."""
    return sorted(one for one in sets if not any(set(one) < set(other) for other in sets))


def rule_holds(rule, levels):
    first, second, low, high = rule
    return low <= levels[second] - levels[first] <= high


def claim_holds(claim, levels):
    difference = levels[claim.second] - levels[claim.first]
    above = claim.low is None or claim.low <= difference
    return above and (claim.high is None or difference <= claim.high)


def worlds_of(frame, reach):
    """All worlds of the frame whose levels lie from -reach to reach."""
    found = []
    for rest in product(range(-reach, reach + 1), repeat=frame.size - 1):
        levels = [0, *rest]
        if all(rule_holds(rule, levels) for rule in frame.rules):
            found.append(levels)
    return found


def worlds_with(worlds, claims):
    return [levels for levels in worlds if all(claim_holds(claim, levels) for claim in claims)]


def greatest_differences(worlds):
    nodes = range(len(worlds[0]))
    return [[max(levels[j] - levels[i] for levels in worlds) for j in nodes] for i in nodes]


def random_frame(random, size, spread=2):
    """A frame in which each node is at most size * spread away from node 0."""
    while True:
        rules = []
        for node in range(1, size):
            other = random.randrange(node)
            low = random.randint(-spread, spread)
            pair = random.choice([(other, node), (node, other)])
            rules.append((*pair, low, random.randint(low, spread)))
        for _ in range(random.randrange(3) if size > 1 else 0):
            first, second = random.sample(range(size), 2)
            low = random.randint(-spread, spread)
            rules.append((first, second, low, random.randint(low, spread + 2)))
        try:
            return Frame(size, rules)
        except InvalidFrame as error:
            assert error.part == "clash"


def random_claim(random, size, spread=3):
    low = random.randint(-spread, spread)
    high = random.randint(low, spread)
    bounds = random.choice([(low, high), (low, low), (low, None), (None, high)])
    return Claim(random.randrange(size), random.randrange(size), *bounds, weight=random.randint(1, 4))


def random_doubt(random, deep):
    if deep > 0 and random.random() < 0.6:
        first = random_doubt(random, deep - 1)
        second = random_doubt(random, deep - 1)
        return first & second if random.random() < 0.5 else first | second
    kind = random.randrange(3)
    if kind == 0:
        return AtMost(random.randrange(4))
    if kind == 1:
        return Within(random.randrange(10))
    return Lots([random.sample(range(7), random.randrange(5)) for _ in range(random.randrange(5))])


def allowed_lots(doubt, weights):
    return [lot for lot in subsets(len(weights)) if doubt.allows(lot, weights)]


def wide_frame(random, size):
    """A frame with much room, whose levels lie from -6 to 6."""
    spread = {1: 0, 2: 6, 3: 3, 4: 2}[size]
    rules = []
    for node in range(1, size):
        pair = random.choice([(random.randrange(node), node), (node, random.randrange(node))])
        rules.append((*pair, random.randint(-spread, 0), random.randint(0, spread)))
    return Frame(size, rules)


def random_hall(random, size, most_claims):
    """A small hall with levels from -6 to 6, sometimes one that no world fits."""
    if random.random() < 0.4:
        frame = random_frame(random, size, {1: 2, 2: 6, 3: 3, 4: 2}[size])
        claims = [random_claim(random, size) for _ in range(random.randint(0, most_claims))]
        return Hall(frame, claims, doubt=random_doubt(random, 2))
    frame = wide_frame(random, size)
    # Each claim follows one of two worlds, so there are often values far from each other.
    pair = random.choices(worlds_of(frame, 6), k=2)
    claims = []
    sides = ([], [])
    for index in range(random.randint(0, most_claims)):
        side = random.randrange(2)
        sides[side].append(index)
        first, second = random.choices(range(size), k=2)
        value = pair[side][second] - pair[side][first]
        bounds = random.choice([(value, value), (value, value + 1), (value, None), (None, value)])
        claims.append(Claim(first, second, *bounds, weight=random.randint(1, 4)))
    many = [AtMost(min(map(len, sides))), AtMost(max(map(len, sides))), AtMost(1)]
    doubts = [*many, Lots(sides), Lots(sides) & AtMost(2), Within(5), random_doubt(random, 2)]
    return Hall(frame, claims, doubt=random.choice(doubts))


def fitting_worlds(hall, reach):
    """All fitting worlds of a hall, by its definition, whose levels lie from -reach to reach."""
    found = []
    for levels in worlds_of(hall.frame, reach):
        untrue = [index for index, claim in enumerate(hall.claims) if not claim_holds(claim, levels)]
        if hall.doubt.allows(untrue, hall.weights):
            found.append(levels)
    return found


def random_cases(number, many, most_claims=5, sizes=(1, 2, 2, 3, 3, 4)):
    """Small halls with all their fitting worlds, perhaps none."""
    random = seeded(number)
    for _ in range(many):
        hall = random_hall(random, random.choice(sizes), most_claims)
        yield random, hall, fitting_worlds(hall, 6)


def difference(levels, first, second):
    return levels[second] - levels[first]


def largest_of(hall):
    """The largest lots of a hall, by a plain search."""
    return maximal(allowed_lots(hall.doubt, hall.weights))


def rest_of(hall, lot):
    return [claim for index, claim in enumerate(hall.claims) if index not in lot]


def random_estimates(random, most, most_weight=6):
    """Up to so many estimates with bounds from -12 to 12."""
    lows = [random.randint(-12, 8) for _ in range(random.randint(0, most))]
    return [(low, min(12, low + random.choice([0, 1, 3, 9])), random.randint(1, most_weight)) for low in lows]


def random_curves(random, boxes, most):
    """Curves of up to so many numbers."""
    return [[random.randint(0, 6) for _ in range(random.randint(1, most))] for _ in range(boxes)]


def all_counts(curves):
    """All lists of counts that the curves have prices for, in ascending order."""
    return [list(counts) for counts in product(*[range(len(costs)) for costs in curves])]


def simple_ways(arcs, start, goal):
    """All ways along arcs from a node to another one that come to no node twice, as lists of indexes."""
    found = []

    def walk(node, seen, way):
        if node == goal:
            found.append(way)
            return
        for index, arc in enumerate(arcs):
            if arc[0] == node and arc[1] not in seen:
                walk(arc[1], seen | {arc[1]}, [*way, index])

    walk(start, {start}, [])
    return found


def simple_chains(frame, claims, start):
    """All chains from a node that come to no node twice, as (end, total, links), rings included."""
    links = []
    sides = [("rule", i, rule) for i, rule in enumerate(frame.rules)]
    sides += [("claim", i, claim.parts()[:4]) for i, claim in enumerate(claims)]
    for source, index, (first, second, low, high) in sides:
        if high is not None:
            links.append((first, second, high, (source, index, "up")))
        if low is not None:
            links.append((second, first, -low, (source, index, "down")))
    found = []

    def walk(node, seen, total, chain):
        found.append((node, total, chain))
        if chain and node == start:
            return
        for begin, end, length, link in links:
            if begin == node and (end not in seen or end == start):
                walk(end, seen | {end}, total + length, [*chain, link])

    walk(start, {start}, 0, [])
    return found


def nodes_of_chain(frame, claims, start, chain):
    """The nodes that a chain comes to, with its start."""
    nodes = [start]
    for source, index, direction in chain:
        first, second = frame.rules[index][:2] if source == "rule" else claims[index].parts()[:2]
        begin, end = (first, second) if direction == "up" else (second, first)
        assert begin == nodes[-1]
        nodes.append(end)
    return nodes


def lists_within(value):
    """All lists in an answer, at every depth."""
    if isinstance(value, (list, tuple)):
        inner = [found for item in value for found in lists_within(item)]
        return [value, *inner] if isinstance(value, list) else inner
    return []


def as_tuples(value):
    """The value with a tuple in the place of each list."""
    if isinstance(value, (list, tuple)):
        return tuple(as_tuples(item) for item in value)
    return value


def frozen(value):
    """A copy of the lists and tuples of a value, to compare with later."""
    if isinstance(value, (list, tuple)):
        return type(value)(frozen(item) for item in value)
    return value


def check_call(case, function, *arguments, **named):
    """The answer of a call, after the checks of points 3 and 4 that hold for every function."""
    before = [frozen(argument) for argument in arguments]
    answer = function(*arguments, **named)
    kept = frozen(answer)
    lists = lists_within(answer)
    case.assertEqual(len({id(found) for found in lists}), len(lists), "a list occurs twice in an answer")
    for found in lists:
        found.append("spoiled")
    case.assertEqual([frozen(argument) for argument in arguments], before, "an argument was changed")
    case.assertEqual(function(*arguments, **named), kept, "asking twice gives another answer")
    swapped = [as_tuples(argument) for argument in arguments]
    case.assertEqual(function(*swapped, **named), kept, "tuples give another answer")
    return kept


def check_no_world(case, function, *arguments, **named):
    """Check that a call raises NoWorld."""
    with case.assertRaises(NoWorld):
        function(*arguments, **named)


def check_verdict(case, answer, worlds, holds):
    """Check a word and its two worlds against all fitting worlds."""
    case.assertIsInstance(answer, tuple)
    word, supporting, opposing = answer
    answers = {holds(levels) for levels in worlds}
    case.assertEqual(word, {(True,): "certain", (False,): "never"}.get(tuple(answers), "open"))
    for levels, wanted in [(supporting, True), (opposing, False)]:
        case.assertEqual(levels is not None, wanted in answers)
        if levels is not None:
            case.assertIn(levels, worlds)
            case.assertEqual(holds(levels), wanted)


def check_part(case, error, part, function, *arguments, **named):
    """Check that a call raises this error with this part."""
    with case.assertRaises(error) as caught:
        function(*arguments, **named)
    case.assertEqual(caught.exception.part, part)


def seeded(number):
    return Random(number)
