"""Points 1 to 5 for the whole program, and the examples of README.md."""

import ast
import contextlib
import importlib
import inspect
import io
import pathlib
import re
import unittest

from counthall.accounts import suspect_ring
from counthall.chains import least_chain
from counthall.claims import Claim
from counthall.desk import Desk, replay
from counthall.doubts import AtMost, Lots
from counthall.errors import BadText, Clash, Contradiction, HallError, InvalidFrame
from counthall.frames import Frame
from counthall.halls import Hall
from counthall.hunts import hunt
from counthall.parting import parting
from counthall.plans import Plan
from counthall.readings import row_frame
from counthall.spans import span
from counthall.texts import format_hall, parse_hall
from counthall.traffic import least_traffic
from tests.plain import lists_within

ROOT = pathlib.Path(__file__).resolve().parent.parent
MODULES = sorted(path.stem for path in (ROOT / "counthall").glob("*.py") if path.stem != "__init__")
README = (ROOT / "README.md").read_text(encoding="utf-8")


def module(name):
    return importlib.import_module(f"counthall.{name}")


class ErrorsTest(unittest.TestCase):
    def test_all_errors_of_all_files(self):
        found = {}
        for name in MODULES:
            for value in vars(module(name)).values():
                if inspect.isclass(value) and issubclass(value, BaseException):
                    found[value.__name__] = value
                    self.assertEqual(value.__module__, "counthall.errors")
        self.assertIn("HallError", found)
        for name, value in found.items():
            self.assertEqual(value.__bases__, (ValueError,) if name == "HallError" else (HallError,), name)
        self.assertEqual(len(found), 17)

    def test_every_error_that_is_raised_is_one_of_them(self):
        for name in MODULES:
            tree = ast.parse((ROOT / "counthall" / f"{name}.py").read_text(encoding="utf-8"))
            for node in ast.walk(tree):
                if isinstance(node, ast.Raise):
                    self.assertTrue(issubclass(getattr(module(name), node.exc.func.id), HallError))

    def test_lists_of_errors_are_new_ones(self):
        frame = row_frame([4, 4])
        claims = [Claim(0, 1, 5)]
        desk = Desk(frame)
        desk.recount(0, 1, 3)
        for error, function, arguments, told in [
            (Clash, least_chain, (frame, claims, 0, 1), "ring"), (Contradiction, desk.recount, (0, 1, 4), "numbers"),
        ]:
            kept = []
            for _ in range(2):
                with self.assertRaises(error) as caught:
                    function(*arguments)
                kept.append(list(getattr(caught.exception, told)))
                getattr(caught.exception, told).append("spoiled")
            self.assertEqual(kept[0], kept[1])
        self.assertEqual(desk.standing(), [(0, "recount", 0, 1, 3)])


class CopiesTest(unittest.TestCase):
    def test_lists_that_a_caller_changes_later(self):
        rules = [[0, 1, 0, 9], [1, 2, 0, 9]]
        frame = Frame(3, rules)
        claims = [Claim(0, 1, 4, 4), Claim(0, 1, 7, 7)]
        lots = [[1]]
        doubt = Lots(lots)
        hall = Hall(frame, claims, doubt=doubt)
        desk = Desk(frame, doubt=doubt)
        limits, askings = [[0, 1, 5]], [[0, 1, 0, 1]]
        plan = Plan(2, limits, askings)
        desk.tell(0, 1, 4, 4)
        before = (frame.rules, span(hall, 0, 1), desk.hall().frame.rules, format_hall(hall), parting(plan, doubt, 0, 1))
        rules[0][3] = 1
        rules.pop()
        claims.clear()
        lots[0].append(0)
        lots.append([0, 1, 2])
        limits[0][2] = 99
        askings.pop()
        after = (frame.rules, span(hall, 0, 1), desk.hall().frame.rules, format_hall(hall), parting(plan, doubt, 0, 1))
        self.assertEqual(after, before)

    def test_the_same_objects_in_several_places(self):
        claim = Claim(0, 1, 4, 4)
        doubt = AtMost(1)
        hall = Hall(row_frame([9]), [claim, claim, Claim(0, 1, 5, 5)], doubt=doubt & (doubt | doubt))
        self.assertEqual(span(hall, 0, 1), (4, 4))
        self.assertEqual(format_hall(parse_hall(format_hall(hall))), format_hall(hall))

    def test_no_list_twice_in_an_answer(self):
        accounts = [(0, 1, 4), (1, 2, 5), (0, 2, 10)]
        plan = Plan(2, [(0, 1, 5)], [(0, 1, 0, 1)])
        for answer in [
            suspect_ring(3, accounts), parting(plan, AtMost(1), 0, 1), hunt(3, accounts),
        ]:
            lists = lists_within(answer)
            self.assertEqual(len({id(found) for found in lists}), len(lists))


class CallsThatRaiseTest(unittest.TestCase):
    def test_arguments_stay_as_they_were(self):
        rules = [(0, 1, 0, 1), (0, 1, 2, 3)]
        with self.assertRaises(InvalidFrame):
            Frame(2, rules)
        self.assertEqual(rules, [(0, 1, 0, 1), (0, 1, 2, 3)])
        desk = Desk(row_frame([9]))
        deeds = [("tell", 0, 1, 4, 4, 1), ("withdraw", 7)]
        with self.assertRaises(HallError):
            desk.attempt(deeds, 0, 1)
        self.assertEqual((deeds, desk.deeds()), ([("tell", 0, 1, 4, 4, 1), ("withdraw", 7)], []))
        with self.assertRaises(BadText):
            replay(desk.frame, "withdraw 7")
        claims = [Claim(0, 1, 5), Claim(0, 1, None, 4)]
        kept = list(claims)
        ledger = module("ledger").Ledger([9], 1)
        with self.assertRaises(Clash):
            least_traffic(ledger, claims)
        self.assertEqual(claims, kept)


class ReadmeTest(unittest.TestCase):
    def test_each_file_is_named(self):
        for name in MODULES:
            self.assertIn(f"| `{name}.py` |", README)

    def test_the_examples(self):
        """Each line of an example with a comment that begins with a value has this value."""
        names = {}
        checked = 0
        for block in re.findall(r"```python\n(.*?)```", README, re.S):
            for node in ast.parse(block).body:
                code = ast.get_source_segment(block, node)
                comment = block.split("\n")[node.end_lineno - 1].partition("  # ")[2]
                if not isinstance(node, ast.Expr):
                    exec(code, names)
                    continue
                with contextlib.redirect_stdout(io.StringIO()):
                    value = eval(code, names)
                if comment:
                    checked += 1
                    told = comment == repr(value) or comment.startswith(f"{value!r}: ")
                    self.assertTrue(told, (code, value, comment))
        self.assertGreater(checked, 10)


if __name__ == "__main__":
    unittest.main()
