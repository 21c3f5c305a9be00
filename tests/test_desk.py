"""Points 88 to 92 and 95 to 98: the desk, its entries and its deeds."""

import unittest

from counthall.desk import Desk, replay
from counthall.doubts import AtMost, Lots, Within
from counthall.errors import (
    BadText, Contradiction, DeskFull, HallError, InvalidClaim, InvalidDoubt, NothingToRedo, NothingToUndo, NoWorld,
    UnknownEntry,
)
from counthall.frames import Frame
from counthall.readings import row_frame
from counthall.texts import format_doubt
from tests.plain import check_part, random_doubt, random_frame, rule_holds, seeded, wide_frame, worlds_of

ROW = row_frame([9, 9])
LOOSE = Frame(3, [(0, 1, -99, 99), (0, 2, -99, 99)])


def state(desk):
    """All that a desk tells of its entries and deeds."""
    return desk.standing(), list(desk), desk.numbers(), format_doubt(desk.doubt), desk.deeds(), desk.journal()


def history(desk):
    """The states of a desk after each undo and each redo; the desk is as before afterwards."""
    states = []
    undone = 0
    while desk.deeds():
        desk.undo()
        undone += 1
        states.append(state(desk))
    for _ in range(undone):
        desk.redo()
    states.append(state(desk))
    redone = 0
    while True:
        try:
            desk.redo()
        except NothingToRedo:
            break
        redone += 1
        states.append(state(desk))
    for _ in range(redone):
        desk.undo()
    return states


def do_deed(desk, deed):
    """Do a deed in the form of point 96, with a doubt in the place of its text."""
    kind, *parts = deed
    if kind == "tell":
        first, second, low, high, weight = parts
        return desk.tell(first, second, low, high, weight=weight)
    return getattr(desk, {"doubt": "set_doubt"}.get(kind, kind))(*parts)


class DeskCase(unittest.TestCase):
    def check_refused(self, desk, error, function, *arguments, **named):
        """Check that a call raises an error of exactly this class and that the desk is as before."""
        before = history(desk)
        with self.assertRaises(error) as caught:
            function(*arguments, **named)
        self.assertIs(caught.exception.__class__, error)
        self.assertEqual(history(desk), before)
        return caught.exception

    def check_unknown(self, desk, number, function, *arguments):
        error = self.check_refused(desk, UnknownEntry, function, number, *arguments)
        self.assertEqual(error.number, number)

    def check_invalid(self, desk, part, function, *arguments, **named):
        self.assertEqual(self.check_refused(desk, InvalidClaim, function, *arguments, **named).part, part)


class EntriesTest(DeskCase):
    def test_a_new_desk(self):
        doubt = AtMost(2)
        desks = [(Desk(ROW), "most 0"), (Desk(ROW, doubt=None), "most 0"), (Desk(ROW, doubt=doubt), "most 2")]
        for desk, text in desks:
            self.assertIs(desk.frame, ROW)
            self.assertEqual(state(desk), ([], [], [], text, [], ""))
        self.assertIs(Desk(ROW, doubt=doubt).doubt, doubt)

    def test_the_example(self):
        desk = Desk(ROW, doubt=AtMost(1))
        self.assertEqual((desk.tell(0, 1, 4, 4), desk.tell(0, 1, 4, 4), desk.tell(0, 1, 7, 7)), (0, 1, 2))
        self.assertEqual(desk.standings(), [(0, "true"), (1, "true"), (2, "false")])
        self.assertIsNone(desk.withdraw(1))
        self.assertEqual(desk.span(0, 1), (4, 7))

    def test_entries(self):
        desk = Desk(ROW)
        self.assertEqual(desk.tell(0, 1, 4), 0)
        self.assertEqual(desk.recount(1, 2, 3), 1)
        self.assertEqual(desk.tell(2, 2, weight=99), 2)
        self.assertEqual(desk.tell(2, 0, None, -3, weight=7), 3)
        rows = [
            (0, "claim", 0, 1, 4, None, 1), (1, "recount", 1, 2, 3), (2, "claim", 2, 2, None, None, 99),
            (3, "claim", 2, 0, None, -3, 7),
        ]
        self.assertEqual(desk.standing(), rows)
        self.assertEqual(list(desk), rows)
        self.assertEqual(desk.numbers(), [0, 2, 3])
        desk.withdraw(2)
        desk.withdraw(1)
        self.assertEqual(desk.standing(), [rows[0], rows[3]])
        self.assertEqual(desk.numbers(), [0, 3])
        self.assertEqual(desk.tell(0, 2), 4)
        self.assertEqual(desk.recount(0, 1, 5), 5)

    def test_each_returned_list_is_a_new_one(self):
        desk = Desk(ROW)
        desk.tell(0, 1, 4)
        desk.recount(1, 2, 3)
        before = history(desk)
        for answer in (desk.standing(), desk.numbers(), desk.deeds()):
            answer.append("spoiled")
        self.assertEqual(history(desk), before)

    def test_a_desk_may_change_while_it_is_iterated_over(self):
        desk = Desk(ROW)
        for _ in range(3):
            desk.tell(0, 1)
        seen = []
        for entry in desk:
            seen.append(entry[0])
            desk.withdraw(entry[0])
        self.assertEqual((seen, desk.standing()), ([0, 1, 2], []))

    def test_tell_with_wrong_values(self):
        desk = Desk(ROW)
        desk.tell(0, 1)
        for nodes in [(3, 0), (0, 3), (-1, 0), (0, -1), (15, 16), (99, 99)]:
            self.check_invalid(desk, "nodes", desk.tell, *nodes, 5, 4, weight=0)
        self.check_invalid(desk, "bounds", desk.tell, 0, 1, 5, 4, weight=0)
        for weight in (0, 100, -3):
            self.check_invalid(desk, "weight", desk.tell, 0, 1, 5, 5, weight=weight)
        self.assertEqual(desk.tell(2, 2, 5, 5, weight=99), 1)

    def test_recount_with_wrong_values(self):
        desk = Desk(ROW)
        desk.recount(0, 1, 4)
        for nodes in [(3, 0), (0, 3), (-1, 0), (0, -1), (1, 1), (3, 3)]:
            self.check_invalid(desk, "nodes", desk.recount, *nodes, 0)
        self.assertEqual(desk.recount(2, 1, -9), 1)

    def test_the_eleventh_claim(self):
        desk = Desk(ROW)
        for number in range(10):
            self.assertEqual(desk.tell(0, 1), number)
        self.check_refused(desk, DeskFull, desk.tell, 0, 1)
        self.check_invalid(desk, "nodes", desk.tell, 0, 3)
        self.check_invalid(desk, "bounds", desk.tell, 0, 1, 5, 4)
        self.check_invalid(desk, "weight", desk.tell, 0, 1, weight=0)
        self.assertEqual(desk.recount(0, 1, 4), 10)
        self.check_refused(desk, DeskFull, desk.tell, 0, 1)
        desk.withdraw(10)
        self.check_refused(desk, DeskFull, desk.tell, 0, 1)
        desk.withdraw(4)
        self.assertEqual(desk.tell(0, 1), 11)
        self.check_refused(desk, DeskFull, desk.tell, 0, 1)
        desk.undo()
        self.assertEqual(desk.tell(0, 1), 11)

    def test_the_eleventh_recount(self):
        desk = Desk(ROW)
        for number in range(10):
            self.assertEqual(desk.recount(0, 1, 4), number)
        # A full desk says so before it looks for a contradiction.
        for value in (4, 5, 77):
            self.check_refused(desk, DeskFull, desk.recount, 0, 1, value)
        self.check_invalid(desk, "nodes", desk.recount, 0, 0, 5)
        self.assertEqual(desk.tell(0, 1), 10)
        desk.withdraw(0)
        self.check_refused(desk, Contradiction, desk.recount, 0, 1, 5)
        self.assertEqual(desk.recount(0, 1, 4), 11)

    def test_the_last_number(self):
        desk = Desk(ROW)
        for number in range(39):
            self.assertEqual(desk.tell(0, 1) if number % 2 else desk.recount(0, 1, 4), number)
            desk.withdraw(number)
        self.assertEqual(desk.tell(0, 1), 39)
        self.check_refused(desk, DeskFull, desk.tell, 0, 1)
        for value in (4, 99):
            self.check_refused(desk, DeskFull, desk.recount, 0, 1, value)
        self.check_invalid(desk, "nodes", desk.tell, 0, 3)
        self.check_invalid(desk, "nodes", desk.recount, 0, 0, 4)
        desk.withdraw(39)
        self.check_refused(desk, DeskFull, desk.tell, 0, 1)
        desk.undo()
        desk.undo()
        self.assertEqual(desk.recount(0, 1, 4), 39)
        self.check_refused(desk, DeskFull, desk.recount, 0, 1, 4)

    def test_correct(self):
        desk = Desk(ROW)
        desk.tell(0, 1, 4, 5, weight=7)
        desk.recount(1, 2, 3)
        desk.tell(0, 2, 8, weight=9)
        for bounds, low, high in [
            ((1, 2), 1, 2), ((), None, None), ((3,), 3, None), ((None, 3), None, 3), ((6, 6), 6, 6),
        ]:
            self.assertIsNone(desk.correct(0, *bounds))
            self.assertEqual(desk.standing()[0], (0, "claim", 0, 1, low, high, 7))
            self.assertEqual(desk.standing()[2], (2, "claim", 0, 2, 8, None, 9))
        self.assertIsNone(desk.correct(2, high=4, low=3))
        self.assertEqual(desk.standing()[2], (2, "claim", 0, 2, 3, 4, 9))
        for number in (1, 3, -1, -3, 39, 10 ** 11):
            self.check_unknown(desk, number, desk.correct, 0, 1)
            self.check_unknown(desk, number, desk.correct, 5, 4)
        self.check_invalid(desk, "bounds", desk.correct, 2, 5, 4)
        desk.withdraw(2)
        self.check_unknown(desk, 2, desk.correct, 0, 1)
        self.check_unknown(desk, 2, desk.correct, 5, 4)

    def test_withdraw(self):
        desk = Desk(ROW)
        desk.tell(0, 1, 4)
        desk.recount(1, 2, 3)
        for number in (2, -1, -2, 39):
            self.check_unknown(desk, number, desk.withdraw)
        for number in (1, 0):
            self.assertIsNone(desk.withdraw(number))
            self.check_unknown(desk, number, desk.withdraw)
        self.assertEqual(desk.standing(), [])
        desk.undo()
        self.assertIsNone(desk.withdraw(0))
        self.check_unknown(Desk(ROW), 0, Desk(ROW).withdraw)

    def test_set_doubt(self):
        desk = Desk(ROW, doubt=AtMost(1))
        doubt = Lots([[3, 1]]) | Within(4)
        self.assertIsNone(desk.set_doubt(doubt))
        self.assertIs(desk.doubt, doubt)
        desk.undo()
        self.assertEqual(format_doubt(desk.doubt), "most 1")
        desk.redo()
        self.assertIs(desk.doubt, doubt)


class ContradictionTest(DeskCase):
    def check_numbers(self, desk, recount, numbers):
        self.assertEqual(self.check_refused(desk, Contradiction, desk.recount, *recount).numbers, numbers)

    def test_numbers(self):
        desk = Desk(LOOSE)
        desk.tell(0, 1, 9, 9)
        self.assertEqual(desk.recount(0, 1, 4), 1)
        self.assertEqual(desk.recount(1, 0, -4), 2)
        self.assertEqual(desk.recount(1, 2, 5), 3)
        self.check_numbers(desk, (0, 2, 8), [1, 3])
        self.check_numbers(desk, (0, 1, 3), [1])
        self.check_numbers(desk, (2, 1, 3), [3])
        self.check_numbers(desk, (0, 1, 100), [])
        self.check_numbers(desk, (2, 0, 10 ** 11), [])
        desk.withdraw(1)
        self.check_numbers(desk, (0, 2, 8), [2, 3])
        desk.withdraw(2)
        self.assertEqual(desk.recount(0, 2, 8), 4)
        self.check_numbers(desk, (0, 1, 4), [3, 4])

    def test_claims_have_no_influence(self):
        desk = Desk(LOOSE)
        desk.tell(0, 1, 9, 9)
        self.assertEqual(desk.recount(0, 1, 4), 1)
        with self.assertRaises(NoWorld):
            desk.span(0, 1)

    def test_rules_with_recounts(self):
        desk = Desk(row_frame([5, 5]))
        self.assertEqual(desk.recount(0, 2, 8), 0)
        self.check_numbers(desk, (0, 1, 2), [0])
        self.check_numbers(desk, (0, 1, 6), [])
        self.assertEqual(desk.recount(0, 1, 3), 1)

    def test_random_recounts(self):
        random = seeded(661)
        found = []
        for _ in range(250):
            frame = wide_frame(random, random.choice([2, 3, 3, 4]))
            worlds = worlds_of(frame, 6)
            desk = Desk(frame)
            standing = {}
            for _ in range(6):
                first, second = random.sample(range(frame.size), 2)
                value = random.randint(-2, 2)
                rule = (first, second, value, value)

                def possible(rules):
                    return any(all(rule_holds(one, levels) for one in rules) for levels in worlds)

                if possible([*standing.values(), rule]):
                    standing[desk.recount(first, second, value)] = rule
                else:
                    kept = dict(standing)
                    for number in sorted(standing, reverse=True):
                        fewer = {other: kept[other] for other in kept if other != number}
                        if not possible([*fewer.values(), rule]):
                            kept = fewer
                    self.check_numbers(desk, (first, second, value), sorted(kept))
                    found.append(len(kept))
                if standing and random.random() < 0.2:
                    number = random.choice(sorted(standing))
                    del standing[number]
                    desk.withdraw(number)
        for many in (0, 1, 2):
            self.assertGreater(found.count(many), 10)


class UndoTest(DeskCase):
    def test_both_ends(self):
        desk = Desk(ROW)
        self.check_refused(desk, NothingToUndo, desk.undo)
        self.check_refused(desk, NothingToRedo, desk.redo)
        desk.tell(0, 1, 4)
        self.check_refused(desk, NothingToRedo, desk.redo)
        self.assertIsNone(desk.undo())
        self.check_refused(desk, NothingToUndo, desk.undo)
        self.assertIsNone(desk.redo())
        self.check_refused(desk, NothingToRedo, desk.redo)
        self.assertEqual(desk.standing(), [(0, "claim", 0, 1, 4, None, 1)])

    def test_every_kind_of_deed(self):
        desk = Desk(ROW, doubt=AtMost(3))
        states = [state(desk)]
        for deed in [
            ("tell", 0, 1, 4, None, 2), ("recount", 1, 2, 3), ("correct", 0, None, 3), ("doubt", Within(7)),
            ("withdraw", 0), ("withdraw", 1), ("tell", 2, 0, None, None, 1), ("doubt", AtMost(3)),
        ]:
            do_deed(desk, deed)
            states.append(state(desk))
        for before in reversed(states[:-1]):
            desk.undo()
            self.assertEqual(state(desk), before)
        for after in states[1:]:
            desk.redo()
            self.assertEqual(state(desk), after)

    def test_a_new_deed_behind_an_undone_one(self):
        desk = Desk(ROW)
        for low in range(4):
            desk.tell(0, 1, low)
        desk.undo()
        desk.undo()
        self.assertEqual(desk.tell(0, 1, 7), 2)
        self.check_refused(desk, NothingToRedo, desk.redo)
        self.assertEqual([entry[4] for entry in desk.standing()], [0, 1, 7])
        desk.undo()
        desk.redo()
        self.check_refused(desk, NothingToRedo, desk.redo)
        self.assertEqual([entry[4] for entry in desk.standing()], [0, 1, 7])

    def test_a_refused_call_between_them(self):
        desk = Desk(ROW)
        desk.tell(0, 1, 4)
        desk.recount(1, 2, 3)
        desk.undo()
        for function, arguments in [
            (desk.tell, (0, 9)), (desk.tell, (0, 1, 5, 4)), (desk.recount, (0, 0, 1)), (desk.recount, (0, 1, 77)),
            (desk.correct, (1, 5)), (desk.correct, (0, 5, 4)), (desk.withdraw, (1,)),
        ]:
            self.check_refused(desk, self.error_of(function, *arguments), function, *arguments)
        desk.redo()
        self.assertEqual(desk.standing()[1], (1, "recount", 1, 2, 3))

    def error_of(self, function, *arguments):
        with self.assertRaises(HallError) as caught:
            function(*arguments)
        return caught.exception.__class__

    def test_an_entry_that_is_taken_back(self):
        desk = Desk(ROW)
        desk.tell(0, 1, 4)
        desk.tell(0, 1, 5)
        desk.undo()
        self.check_unknown(desk, 1, desk.correct, 3)
        self.check_unknown(desk, 1, desk.withdraw)
        self.assertEqual(desk.recount(0, 2, 9), 1)
        self.check_unknown(desk, 1, desk.correct, 3)
        self.assertIsNone(desk.withdraw(1))

    def test_questions_do_not_count_as_deeds(self):
        desk = Desk(ROW)
        desk.tell(0, 1, 4)
        desk.undo()
        desk.span(0, 1)
        desk.attempt([("tell", 0, 1, 3, None, 1)], 0, 1)
        desk.journal()
        desk.redo()
        self.assertEqual(desk.numbers(), [0])


class DeedsTest(DeskCase):
    def test_deeds_and_journal(self):
        desk = Desk(ROW)
        desk.tell(0, 2, None, 5)
        desk.recount(0, 1, 4)
        desk.correct(0, 0)
        desk.set_doubt(Lots([[2, 0], []]) & AtMost(1))
        desk.withdraw(1)
        desk.tell(0, 0, weight=3)
        desk.undo()
        self.assertEqual(desk.deeds(), [
            ("tell", 0, 2, None, 5, 1), ("recount", 0, 1, 4), ("correct", 0, 0, None),
            ("doubt", "both lots -/0,2 most 1"), ("withdraw", 1),
        ])
        self.assertEqual(desk.journal(), "\n".join([
            "tell 0 2 any 5 weight 1", "recount 0 1 4", "correct 0 0 any", "doubt both lots -/0,2 most 1", "withdraw 1",
        ]))

    def test_no_deeds(self):
        desk = Desk(ROW, doubt=AtMost(5))
        self.assertEqual((desk.deeds(), desk.journal()), ([], ""))

    def test_a_journal_with_a_wrong_line(self):
        for text, line in [
            ("x", 1), ("\n", 1), ("tell 0 1 any any weight 1\n", 2), ("tell 0 1 any any weight 1\nwithdraw", 2),
            ("tell 0 1 any any weight 1\nundo\nwithdraw 7", 2), ("doubt most 100", 1), ("doubt most -1", 1),
            ("withdraw 7\nx", 1), ("tell 0 1 any any weight 1\nwithdraw 0\nwithdraw 0\nx", 3),
            ("tell 0 3 any any weight 1", 1), ("tell 0 1 5 4 weight 1", 1), ("tell 0 1 4 5 weight 0", 1),
            ("recount 0 0 5", 1), ("recount 0 1 10", 1), ("recount 0 1 4\nrecount 0 1 5", 2), ("correct 0 any any", 1),
            ("tell 0 1 any any weight 1\ncorrect 0 5 4", 2), ("recount 0 1 4\ncorrect 0 1 2", 2),
            ("\n".join(["tell 0 1 any any weight 1"] * 11), 11), ("\n".join(["recount 0 1 4"] * 12), 11),
        ]:
            with self.assertRaises(BadText, msg=text) as caught:
                replay(ROW, text)
            self.assertEqual(caught.exception.line, line, text)

    def test_replay(self):
        desk = replay(ROW, "tell 0 1 4 4 weight 2\ndoubt most 1", doubt=Within(5))
        self.assertIs(desk.frame, ROW)
        self.assertEqual(desk.standing(), [(0, "claim", 0, 1, 4, 4, 2)])
        self.assertEqual(format_doubt(desk.doubt), "most 1")
        desk.undo()
        self.assertEqual(format_doubt(desk.doubt), "within 5")
        for doubt, text in [(None, "most 0"), (AtMost(7), "most 7")]:
            self.assertEqual(state(replay(ROW, "", doubt=doubt)), state(Desk(ROW, doubt=doubt)))
            self.assertEqual(format_doubt(replay(ROW, "", doubt=doubt).doubt), text)
        self.assertEqual(state(replay(ROW, "")), state(Desk(ROW)))

    def test_a_desk_and_the_replay_of_its_journal(self):
        random = seeded(662)
        for desk, _ in random_desks(random, 60):
            again = replay(desk.frame, desk.journal(), doubt=first_doubt(desk))
            self.assertEqual(state(again), state(desk))


def first_doubt(desk):
    """The doubt that a desk began with; the desk is as before afterwards."""
    many = len(desk.deeds())
    for _ in range(many):
        desk.undo()
    doubt = desk.doubt
    for _ in range(many):
        desk.redo()
    return doubt


class Model:
    """A desk by the words of points 88 to 91, which goes through all deeds in effect each time."""

    def __init__(self, frame, doubt):
        self.frame = frame
        self.start = doubt
        self.worlds = worlds_of(frame, 8)
        self.done = []
        self.undone = []

    def entries(self):
        entries = []
        for kind, *parts in self.done:
            if kind == "tell":
                entries.append(["claim", *parts])
            elif kind == "recount":
                entries.append(["recount", *parts])
            elif kind == "correct":
                entries[parts[0]][3:5] = parts[1:]
            elif kind == "withdraw":
                entries[parts[0]] = None
        return entries

    def standing(self):
        return [(number, *entry) for number, entry in enumerate(self.entries()) if entry]

    def doubt(self):
        return format_doubt([self.start, *[deed[1] for deed in self.done if deed[0] == "doubt"]][-1])

    def refusal(self, deed):
        """The error that refuses a deed, or None."""
        kind, *parts = deed
        entries = self.entries()
        standing = {row[0]: row for row in self.standing()}
        nodes = range(self.frame.size)
        if kind in ("tell", "recount"):
            same = kind == "recount" and parts[0] == parts[1]
            if parts[0] not in nodes or parts[1] not in nodes or same:
                return InvalidClaim
            if kind == "tell" and (None not in parts[2:4] and parts[2] > parts[3] or not 1 <= parts[4] <= 99):
                return InvalidClaim
            named = {"tell": "claim", "recount": "recount"}[kind]
            if len(entries) > 39 or sum(row[1] == named for row in standing.values()) >= 10:
                return DeskFull
            told = [row[2:] for row in standing.values() if row[1] == "recount"]
            rules = [(a, b, value, value) for a, b, value in [*told, parts[:3]]] if kind == "recount" else []
            if not any(all(rule_holds(rule, levels) for rule in rules) for levels in self.worlds):
                return Contradiction
        elif kind in ("correct", "withdraw"):
            if parts[0] not in standing or kind == "correct" and standing[parts[0]][1] != "claim":
                return UnknownEntry
            if kind == "correct" and None not in parts[1:] and parts[1] > parts[2]:
                return InvalidClaim
        return None


def random_deed(random, size, doubt_depth=2):
    """A deed with a doubt in the place of its text, which may be one that is refused."""
    nodes = random.choices(range(-1, size + 1), [1] + [9] * size + [1], k=2)
    low = random.randint(-3, 3)
    bounds = random.choice([(low, low), (low, low + 1), (low, None), (None, low), (None, None), (low, low - 1)])
    number = random.randint(-1, 12)
    return random.choice([
        ("tell", *nodes, *bounds, random.choice([1, 1, 2, 99, 0])), ("tell", *nodes, *bounds, 1),
        ("recount", *nodes, low), ("correct", number, *bounds), ("withdraw", number),
        ("doubt", random_doubt(random, doubt_depth)),
    ])


def random_desks(random, many):
    """Small desks after many random deeds, each with its model."""
    for _ in range(many):
        frame = random_frame(random, random.randint(1, 4))
        doubt = random_doubt(random, 2)
        desk = Desk(frame, doubt=doubt)
        model = Model(frame, doubt)
        busy = random.random() < 0.3
        for _ in range(random.choice([5, 20, 60])):
            step = random.random()
            if step < 0.15 and model.done:
                model.undone.append(model.done.pop())
                desk.undo()
            elif step < 0.25 and model.undone:
                model.done.append(model.undone.pop())
                desk.redo()
            else:
                deed = random_deed(random, frame.size)
                if busy and step < 0.7:
                    deed = ("tell", 0, frame.size - 1, None, None, 1)
                if model.refusal(deed) is None:
                    model.done.append(deed)
                    model.undone = []
                    do_deed(desk, deed)
        yield desk, model


def with_text(deed):
    return ("doubt", format_doubt(deed[1])) if deed[0] == "doubt" else deed


class ModelTest(DeskCase):
    def test_random_deeds(self):
        random = seeded(663)
        refused = []
        for desk, model in random_desks(random, 150):
            self.assertEqual(desk.standing(), model.standing())
            self.assertEqual(format_doubt(desk.doubt), model.doubt())
            self.assertEqual(desk.deeds(), [with_text(deed) for deed in model.done])
            for _ in range(6):
                deed = random_deed(random, desk.frame.size)
                error = model.refusal(deed)
                if error is not None:
                    refused.append(error)
                    self.check_refused(desk, error, do_deed, desk, deed)
                else:
                    made = len(model.entries())
                    answer = do_deed(desk, deed)
                    self.assertEqual(answer, made if deed[0] in ("tell", "recount") else None)
                    desk.undo()
                    model.undone = []
        for error in (InvalidClaim, UnknownEntry, Contradiction, DeskFull):
            self.assertGreater(refused.count(error), 5, error)


class AttemptTest(DeskCase):
    def check_attempt(self, desk, deeds, first, second, answer):
        before = history(desk)
        given = list(deeds)
        for passed in (given, tuple(given), given):
            self.assertEqual(desk.attempt(passed, first, second), answer)
            self.assertEqual(history(desk), before)
        self.assertEqual(given, list(deeds))

    def test_answers(self):
        desk = Desk(ROW, doubt=AtMost(1))
        desk.tell(0, 1, 4, 4)
        self.check_attempt(desk, [], 0, 1, (0, 9))
        self.check_attempt(desk, [("doubt", "most 0")], 0, 1, (4, 4))
        self.check_attempt(desk, [("tell", 0, 1, 4, 5, 1)], 0, 1, (4, 5))
        self.check_attempt(desk, [("tell", 0, 1, 4, 5, 1), ("withdraw", 1)], 0, 1, (0, 9))
        self.check_attempt(desk, [("recount", 0, 1, 7), ("correct", 0, 1, None)], 0, 1, (7, 7))
        self.check_attempt(desk, [("correct", 0, None, 3), ("doubt", "within 0")], 0, 1, (0, 3))
        desk.undo()
        self.check_attempt(desk, [("tell", 0, 1, 2, 2, 9), ("doubt", "within 8")], 0, 1, (2, 2))
        desk.redo()
        self.assertEqual(desk.numbers(), [0])

    def test_deeds_that_are_refused_in_the_middle(self):
        desk = Desk(ROW)
        desk.tell(0, 1, 4, 4)
        desk.recount(0, 2, 9)
        desk.tell(0, 1, 5)
        desk.undo()
        good = [("tell", 0, 1, 1, 9, 1), ("withdraw", 0), ("doubt", "most 9")]
        for bad, error in [
            (("tell", 0, 3, 1, 1, 1), InvalidClaim), (("tell", 0, 1, 2, 1, 1), InvalidClaim),
            (("tell", 0, 1, 1, 1, 0), InvalidClaim), (("recount", 1, 1, 1), InvalidClaim),
            (("recount", 0, 2, 8), Contradiction), (("correct", 1, 1, 1), UnknownEntry),
            (("correct", 0, 1, 1), UnknownEntry),
            (("correct", 2, 2, 1), InvalidClaim), (("withdraw", 0), UnknownEntry), (("withdraw", -1), UnknownEntry),
            (("doubt", "most 100"), InvalidDoubt), (("doubt", "most  1"), BadText), (("doubt", ""), BadText),
        ]:
            # What comes behind the refused deed is not looked at.
            for rest in ([], [("doubt", "x"), ("withdraw", 99)]):
                self.check_refused(desk, error, desk.attempt, [*good, bad, *rest], 0, 1)
        eleven = [("tell", 0, 1, None, None, 1)] * 10
        self.check_refused(desk, DeskFull, desk.attempt, eleven, 0, 1)
        self.check_attempt(desk, eleven[:9], 0, 2, (9, 9))
        with self.assertRaises(BadText) as caught:
            desk.attempt([*good, ("doubt", "most")], 0, 1)
        self.assertEqual(caught.exception.line, 1)
        check_part(self, InvalidDoubt, "limit", desk.attempt, [("doubt", "within 1000001")], 0, 1)

    def test_no_world_fits(self):
        desk = Desk(ROW)
        desk.tell(0, 1, 4, 4)
        self.check_refused(desk, NoWorld, desk.attempt, [("tell", 0, 1, 5, 5, 1)], 0, 1)
        self.check_attempt(desk, [("tell", 0, 1, 5, 5, 1), ("withdraw", 0)], 0, 1, (5, 5))
        desk.tell(0, 1, 5, 5)
        self.check_refused(desk, NoWorld, desk.attempt, [], 0, 1)
        self.check_attempt(desk, [("withdraw", 0)], 0, 1, (5, 5))

    def test_an_attempt_is_what_the_deeds_would_do(self):
        random = seeded(664)
        answers = 0
        for desk, _ in random_desks(random, 150):
            deeds = [random_deed(random, desk.frame.size) for _ in range(random.randint(0, 4))]
            first, second = random.choices(range(desk.frame.size), k=2)
            before = history(desk)
            again = replay(desk.frame, desk.journal(), doubt=first_doubt(desk))
            try:
                for deed in deeds:
                    do_deed(again, deed)
                answer = again.span(first, second)
            except HallError as error:
                self.check_refused(
                    desk, error.__class__, desk.attempt, [with_text(deed) for deed in deeds], first, second,
                )
            else:
                answers += 1
                self.check_attempt(desk, [with_text(deed) for deed in deeds], first, second, answer)
            self.assertEqual(history(desk), before)
        self.assertGreater(answers, 15)


if __name__ == "__main__":
    unittest.main()
