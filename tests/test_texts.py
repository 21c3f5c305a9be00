"""Points 86 and 87: texts of doubts and halls."""

import unittest

from counthall.claims import Claim
from counthall.doubts import AtMost, Both, Either, Lots, Within
from counthall.errors import BadText, InvalidClaim, InvalidDoubt, InvalidFrame, NoSuchNode
from counthall.frames import Frame
from counthall.halls import Hall
from counthall.readings import count_claim, row_frame, stand_frame
from counthall.texts import format_doubt, format_hall, parse_doubt, parse_hall
from tests.plain import check_part, random_claim, random_doubt, random_frame, seeded, subsets

LONGEST = "999999999999"
PAIR = "nodes 3\nrule 0 1 0 9\nrule 0 2 0 9\nclaim 0 1 3 6 weight 1\nclaim 0 2 4 5 weight 1\ndoubt most 0"

NUMBERS = ["0", "1", "7", "10", "39"]
WRONG_NUMBERS = [
    "", "00", "01", "+1", "-0", "--1", "1.", "1.0", "1_0", "0x1", "a", "-", "1-", "any", "none", "1" + LONGEST,
    "0" + LONGEST, "1000000000000", "1\n", "\n1", "1,", "1 ", " 1", "1e3", "O",
]


def doubts_of_depth(deep):
    """Some doubts exactly so deep."""
    if deep == 0:
        return [AtMost(0), AtMost(99), Within(0), Within(10 ** 6), Lots([]), Lots([[]]), Lots([[2, 0], [1], []])]
    inner = doubts_of_depth(deep - 1)
    return [Both(inner[0], AtMost(3)), Either(Lots([[39]]), inner[-1]), Either(inner[1], inner[2 % len(inner)])]


class CheckText(unittest.TestCase):
    def check_bad(self, function, text, line):
        with self.assertRaises(BadText, msg=repr(text)) as caught:
            function(text)
        self.assertEqual(caught.exception.line, line, repr(text))


class FormatDoubtTest(unittest.TestCase):
    def test_answers(self):
        for doubt, text in [
            (AtMost(0), "most 0"), (AtMost(99), "most 99"), (Within(0), "within 0"),
            (Within(10 ** 6), "within 1000000"),
            (Lots([]), "lots none"), (Lots([[]]), "lots -"), (Lots([[3]]), "lots 3"),
            (Lots([[12, 3], [10], [], [2, 39]]), "lots -/2,39/3,12/10"), (Lots([[1], [1]]), "lots 1"),
            (AtMost(1) & Within(2), "both most 1 within 2"), (AtMost(1) | Within(2), "either most 1 within 2"),
            (Either(AtMost(1), Both(Within(5), Lots([[0, 2], [1], []]))), "either most 1 both within 5 lots -/0,2/1"),
            (Both(Either(AtMost(1), AtMost(2)), AtMost(3)), "both either most 1 most 2 most 3"),
        ]:
            self.assertEqual(format_doubt(doubt), text)
            self.assertEqual(format_doubt(parse_doubt(text)), text)


class ParseDoubtTest(CheckText):
    def test_what_is_read_back(self):
        doubt = parse_doubt("either most 1 both within 5 lots -/0,2/1")
        self.assertIsInstance(doubt, Either)
        self.assertIsInstance(doubt.first, AtMost)
        self.assertEqual(doubt.first.count, 1)
        self.assertIsInstance(doubt.second, Both)
        self.assertEqual(doubt.second.first.limit, 5)
        self.assertEqual(doubt.second.second.lots, ((), (0, 2), (1,)))
        self.assertEqual(parse_doubt("lots none").lots, ())
        self.assertEqual(parse_doubt("lots -").lots, ((),))

    def test_depths(self):
        for deep in range(4):
            for doubt in doubts_of_depth(deep):
                text = format_doubt(doubt)
                self.assertEqual(format_doubt(parse_doubt(text)), text)
                joined = [f"both {text} most 1", f"either most 1 {text}"]
                for longer in joined:
                    if deep < 3:
                        self.assertEqual(format_doubt(parse_doubt(longer)), longer)
                    else:
                        self.check_bad(parse_doubt, longer, 1)
        self.check_bad(parse_doubt, "both " * 400 + "most 1", 1)

    def test_random_doubts(self):
        random = seeded(641)
        for _ in range(200):
            doubt = random_doubt(random, 3)
            again = parse_doubt(format_doubt(doubt))
            self.assertEqual(format_doubt(again), format_doubt(doubt))
            weights = [random.randint(1, 5) for _ in range(5)]
            for lot in subsets(5):
                self.assertEqual(again.allows(lot, weights), doubt.allows(lot, weights))

    def test_numbers(self):
        for number in NUMBERS:
            for word in ("most", "within", "lots"):
                self.assertEqual(format_doubt(parse_doubt(f"{word} {number}")), f"{word} {number}")
        for number in WRONG_NUMBERS + ["-1", "-12"]:
            for word in ("most", "within", "lots"):
                if (word, number) not in [("lots", "none"), ("lots", "-")]:
                    self.check_bad(parse_doubt, f"{word} {number}", 1)
                    self.check_bad(parse_doubt, f"both most 1 {word} {number}", 1)
                    self.check_bad(parse_doubt, f"both {word} {number} most 1", 1)

    def test_words(self):
        for text in [
            "", " ", "most", "most ", "within", "lots", "both", "either", "both most 1", "either most 1 ", "none", "-",
            "most 1 ", " most 1", "most  1", "most\n1", "most 1\n", "\nmost 1", "most 1\nmost 1", "most 1 most 1",
            "most 1 2", "MOST 1", "Most 1", "most1", "at most 1", "lot 1", "and most 1 most 1", "both most 1 most",
            "both most 1  most 1", "both both most 1 most 1", "both most 1 most 1 most 1", "1 most", "most 1/2",
            "most 1,2", "most -", "within none", "lots none none", "lots none/1", "lots 1/none",
        ]:
            self.check_bad(parse_doubt, text, 1)

    def test_lots(self):
        for lots in ["-/0", "0/1", "0,1/0,1,2/0,2/1", "0,39", "-/0,1/1/2,3", "9/10", "2,10", "0/0,1"]:
            self.assertEqual(format_doubt(parse_doubt(f"lots {lots}")), f"lots {lots}")
        for lots in [
            "/", "0/", "/0", "0//1", ",", "0,", ",0", "0,,1", "1,0", "0,0", "1/0", "0/0", "0/-", "-/-", "--", "-,0",
            "0,-",
            "0,1/0", "1/0,2", "10/9", "10,2", "0,01", "0;1", "0, 1", "0 /1", "0,1/1,0", "2/1", "-1",
        ]:
            self.check_bad(parse_doubt, f"lots {lots}", 1)

    def test_doubts_that_are_refused(self):
        many = "/".join(str(number) for number in range(24))
        for text, part in [
            ("most 100", "count"), (f"most {LONGEST}", "count"), ("within 1000001", "limit"),
            (f"within {LONGEST}", "limit"), ("lots 40", "lots"), ("lots 0/1,40", "lots"), (f"lots {many}/24", "lots"),
            (f"lots {LONGEST}", "lots"), ("both most 100 within 1000001", "count"),
            ("both within 1000001 most 100", "limit"), ("either both most 1 lots 40 most 100", "lots"),
            ("either most 5 both within 9 either lots 77 most 100", "lots"),
        ]:
            check_part(self, InvalidDoubt, part, parse_doubt, text)
        for text in ("most 99", "within 1000000", "lots 39", f"lots {many}"):
            self.assertEqual(format_doubt(parse_doubt(text)), text)

    def test_the_form_comes_first(self):
        for text in ["both most 100 most", "both most 100 most 01", "most 100 ", "either lots 40 lots 1,1"]:
            self.check_bad(parse_doubt, text, 1)


class FormatHallTest(unittest.TestCase):
    def test_the_example(self):
        pair = Hall(stand_frame([9, 9]), [count_claim(0, 3, 6), count_claim(1, 4, 5)])
        self.assertEqual(format_hall(pair), PAIR)

    def test_answers(self):
        self.assertEqual(format_hall(Hall(Frame(1, []), [])), "nodes 1\ndoubt most 0")
        claims = [Claim(1, 0, weight=99), Claim(0, 1, -4), Claim(1, 1, None, 0, weight=7)]
        self.assertEqual(format_hall(Hall(Frame(2, [(1, 0, -5, -5)]), claims, doubt=AtMost(1) | Lots([]))), "\n".join([
            "nodes 2", "rule 1 0 -5 -5", "claim 1 0 any any weight 99", "claim 0 1 -4 any weight 1",
            "claim 1 1 any 0 weight 7", "doubt either most 1 lots none",
        ]))


class ParseHallTest(CheckText):
    def test_what_is_read_back(self):
        hall = parse_hall("nodes 2\nrule 1 0 -5 -4\nclaim 1 0 any 3 weight 99\ndoubt within 7")
        self.assertEqual(hall.frame.size, 2)
        self.assertEqual(hall.frame.rules, ((1, 0, -5, -4),))
        self.assertEqual([claim.parts() for claim in hall.claims], [(1, 0, None, 3, 99)])
        self.assertEqual(hall.doubt.limit, 7)
        self.assertEqual(format_hall(parse_hall(PAIR)), PAIR)
        self.assertEqual(format_hall(parse_hall("nodes 1\ndoubt most 0")), "nodes 1\ndoubt most 0")

    def test_random_halls(self):
        random = seeded(642)
        for _ in range(150):
            frame = random_frame(random, random.randint(1, 4))
            claims = [random_claim(random, frame.size) for _ in range(random.randint(0, 6))]
            text = format_hall(Hall(frame, claims, doubt=random_doubt(random, 3)))
            again = parse_hall(text)
            self.assertEqual(format_hall(again), text)
            self.assertEqual((again.frame.size, again.frame.rules), (frame.size, frame.rules))
            self.assertEqual([claim.parts() for claim in again.claims], [claim.parts() for claim in claims])

    def test_sixty_rules_and_forty_claims(self):
        rules = [(0, 1, -at, 10 ** 9 - at) for at in range(60)]
        claims = [Claim(0, 1, at - 20, None if at % 2 else 10 ** 9, weight=at + 1) for at in range(40)]
        text = format_hall(Hall(Frame(2, rules), claims, doubt=AtMost(40)))
        self.assertEqual(len(text.split("\n")), 102)
        self.assertEqual(format_hall(parse_hall(text)), text)
        more = text.replace("rule 0 1 0 1000000000", "rule 0 1 0 1000000000\nrule 0 1 0 1")
        check_part(self, InvalidFrame, "rules", parse_hall, more)

    def test_lines_that_are_not_right(self):
        lines = PAIR.split("\n")
        for at, wrong in [
            (0, "nodes"), (0, "nodes  3"), (0, "nodes 3 "), (0, " nodes 3"), (0, "node 3"), (0, "nodes 3 4"), (0, ""),
            (1, "rule 0 1 0"), (1, "rule 0 1 0 9 9"), (1, "rule 0 1 0 any"), (1, "rule 0 1 any 9"),
            (1, "rules 0 1 0 9"),
            (1, "rule -1 1 0 9"), (1, "rule 0 -0 0 9"), (1, "rule 0 1 0 +9"), (1, "rule any 1 0 9"), (1, ""), (1, "#"),
            (2, "rule 0  2 0 9"), (2, "rule 0 2 0 9 "), (2, "rule 0 2 0 9 weight 1"), (2, "RULE 0 2 0 9"),
            (3, "claim 0 1 3 6"), (3, "claim 0 1 3 6 weight"), (3, "claim 0 1 3 6 weight any"), (3, "claim 0 1 3 6 1"),
            (3, "claim 0 1 3 6 weight -1"), (3, "claim 0 -1 3 6 weight 1"), (3, "claim any 1 3 6 weight 1"),
            (3, "claim 0 1 3 6 weigh 1"), (3, "claim 0 1 Any 6 weight 1"), (3, "claim 0 1 none 6 weight 1"),
            (3, "claim 0 1 3 6 weight 1 "), (3, " claim 0 1 3 6 weight 1"), (3, ""), (4, "claim 0 2 4 5 weight  1"),
            (5, "doubt"), (5, "doubt "), (5, "doubt most"), (5, "doubt most -1"), (5, "doubt  most 1"), (5, "most 1"),
            (5, "doubt most 1 "), (5, "doubt both most 1 both most 1 both most 1 both most 1 most 1"),
            (5, "doubts most 1"),
            (5, "doubt lots 1,0"), (5, ""),
        ]:
            text = "\n".join([*lines[:at], wrong, *lines[at + 1:]])
            self.check_bad(parse_hall, text, at + 1)
            # The first wrong line counts.
            self.check_bad(parse_hall, "\n".join([*lines[:at], wrong, "x", *lines[at + 1:]]), at + 1)

    def test_numbers(self):
        forms = [
            (1, "nodes {}", False), (2, "rule {} 1 0 9", False), (2, "rule 0 {} 0 9", False),
            (2, "rule 0 1 {} 9", True), (2, "rule 0 1 0 {}", True), (4, "claim {} 1 3 6 weight 1", False),
            (4, "claim 0 {} 3 6 weight 1", False),
            (4, "claim 0 1 {} 6 weight 1", True), (4, "claim 0 1 3 {} weight 1", True),
            (4, "claim 0 1 3 6 weight {}", False),
        ]
        for line, form, signed in forms:
            for number in NUMBERS + [LONGEST] + ([f"-{LONGEST}", "-1", "-10"] if signed else []):
                self.check_right_line(line, form.format(number))
            wrong = WRONG_NUMBERS + ["-01", "- 1", f"-1{LONGEST}"] + ([] if signed else ["-1", f"-{LONGEST}"])
            for number in wrong:
                is_bound = number == "any" and form.startswith("claim") and signed
                if "\n" not in number and not is_bound:
                    before = PAIR.split("\n")[:line - 1]
                    self.check_bad(parse_hall, "\n".join([*before, form.format(number), "x"]), line)

    def check_right_line(self, line, text):
        """A text whose next line is wrong: this is the line that is told."""
        before = PAIR.split("\n")[:line - 1]
        self.check_bad(parse_hall, "\n".join([*before, text, "x"]), line + 1)

    def test_lines_in_the_wrong_place(self):
        for text, line in [
            ("", 1), ("\n", 1), ("doubt most 0", 1), ("rule 0 1 0 9\nnodes 2\ndoubt most 0", 1),
            ("claim 0 0 any any weight 1\nnodes 1\ndoubt most 0", 1), ("nodes 1\nnodes 1\ndoubt most 0", 2),
            ("nodes 1\n\ndoubt most 0", 2), ("\nnodes 1\ndoubt most 0", 1),
            ("nodes 2\nclaim 0 1 0 1 weight 1\nrule 0 1 0 9\ndoubt most 0", 3),
            ("nodes 2\nrule 0 1 0 9\nnodes 2\ndoubt most 0", 3), ("nodes 1\ndoubt most 0\ndoubt most 0", 3),
            ("nodes 1\ndoubt most 0\n", 3), ("nodes 1\ndoubt most 0\nx", 3), ("nodes 1\ndoubt most 0\nnodes 1", 3),
            ("nodes 2\ndoubt most 0\nrule 0 1 0 9", 3), ("nodes 1\ndoubt most 0\nclaim 0 0 any any weight 1", 3),
            ("nodes 2\nrule 0 1 0 9\nclaim 0 1 0 1 weight 1\nnodes 2\ndoubt most 0", 4),
        ]:
            self.check_bad(parse_hall, text, line)

    def test_no_doubt_line(self):
        for text, line in [
            ("nodes 1", 2), ("nodes 2\nrule 0 1 0 9", 3), ("nodes 0", 2), ("nodes 99\nrule 5 5 9 0", 3),
            ("nodes 2\nrule 0 1 0 9\nclaim 7 77 5 4 weight 0", 4), ("nodes 1\n", 2),
        ]:
            self.check_bad(parse_hall, text, line)

    def test_frames_that_are_refused(self):
        for lines, part in [
            (["nodes 0"], "size"), (["nodes 17"], "size"), ([f"nodes {LONGEST}"], "size"), (["nodes 2"], "open"),
            (["nodes 2", "rule 0 2 0 9"], "rules"), (["nodes 2", "rule 0 1 9 0"], "rules"),
            (["nodes 2", "rule 1 1 0 0"], "rules"), (["nodes 2", "rule 0 1 0 1", "rule 0 1 2 3"], "clash"),
        ]:
            check_part(self, InvalidFrame, part, parse_hall, "\n".join([*lines, "doubt most 0"]))
            # Frames come before claims, and claims before doubts.
            text = "\n".join([*lines, "claim 0 99 5 4 weight 0", "doubt most 100"])
            check_part(self, InvalidFrame, part, parse_hall, text)

    def test_claims_and_doubts_that_are_refused(self):
        start = "nodes 2\nrule 0 1 0 9\n"
        for claim, part in [
            ("claim 0 16 5 4 weight 0", "nodes"), ("claim 16 0 any any weight 1", "nodes"),
            ("claim 0 1 5 4 weight 0", "bounds"), ("claim 0 1 any any weight 0", "weight"),
            ("claim 0 1 4 4 weight 100", "weight"),
        ]:
            check_part(self, InvalidClaim, part, parse_hall, f"{start}{claim}\nclaim 0 1 5 5 weight 1\ndoubt most 100")
            before, after = "claim 0 1 5 5 weight 1\nclaim 0 7 5 5 weight 1", "claim 0 99 5 5 weight 1"
            check_part(self, InvalidClaim, part, parse_hall, f"{start}{before}\n{claim}\n{after}\ndoubt most 1")
        for text, part in [("most 100", "count"), ("both within 1000001 most 100", "limit"), ("lots 40", "lots")]:
            check_part(self, InvalidDoubt, part, parse_hall, f"{start}doubt {text}")
            check_part(self, InvalidDoubt, part, parse_hall, f"{start}claim 0 7 5 5 weight 1\ndoubt {text}")

    def test_nodes_that_the_frame_does_not_have(self):
        for claims, index in [(["claim 0 2"], 0), (["claim 0 1", "claim 15 0", "claim 0 9"], 1)]:
            lines = [f"{claim} 5 5 weight 1" for claim in claims]
            with self.assertRaises(NoSuchNode) as caught:
                parse_hall("\n".join(["nodes 2", "rule 0 1 0 9", *lines, "doubt most 0"]))
            self.assertEqual(caught.exception.index, index)

    def test_far_numbers(self):
        text = f"nodes 2\nrule 0 1 -{LONGEST} {LONGEST}\nclaim 1 0 -{LONGEST} any weight 1\ndoubt most 0"
        self.assertEqual(format_hall(parse_hall(text)), text)


if __name__ == "__main__":
    unittest.main()
