"""Point 97: texts of deeds."""

import unittest

from counthall.deeds import format_deeds, parse_deeds
from counthall.errors import BadText
from counthall.texts import format_doubt
from tests.plain import check_call, random_doubt, seeded

LONGEST = 10 ** 12 - 1

LINES = [
    (("tell", 0, 2, None, 5, 1), "tell 0 2 any 5 weight 1"), (("recount", 0, 1, -4), "recount 0 1 -4"),
    (("correct", 3, 0, None), "correct 3 0 any"), (("withdraw", 3), "withdraw 3"),
    (("doubt", "most 1"), "doubt most 1"),
    (("tell", 1, 1, None, None, 99), "tell 1 1 any any weight 99"), (("correct", 0, None, None), "correct 0 any any"),
    (("tell", 15, 3, -7, None, 10), "tell 15 3 -7 any weight 10"), (("correct", 39, -9, -8), "correct 39 -9 -8"),
    (("doubt", "either most 1 both within 5 lots -/0,2/1"), "doubt either most 1 both within 5 lots -/0,2/1"),
    # Deeds that a desk would refuse have lines, too.
    (("tell", 99, 100, 5, -5, 0), "tell 99 100 5 -5 weight 0"), (("recount", 3, 3, 0), "recount 3 3 0"),
    (("correct", 77, 2, 1), "correct 77 2 1"), (("withdraw", LONGEST), f"withdraw {LONGEST}"),
    (("tell", LONGEST, 0, -LONGEST, LONGEST, LONGEST), f"tell {LONGEST} 0 -{LONGEST} {LONGEST} weight {LONGEST}"),
    (("recount", 0, LONGEST, -LONGEST), f"recount 0 {LONGEST} -{LONGEST}"), (("doubt", "lots none"), "doubt lots none"),
]

WRONG = [
    " ", "x", "tell", "tell 0 2 any 5", "tell 0 2 any 5 weight", "tell 0 2 any 5 weight any",
    "tell 0 2 any 5 weight -1",
    "tell -1 2 any 5 weight 1", "tell 0 -2 any 5 weight 1", "tell any 2 any 5 weight 1", "tell 0 2 any 5 1",
    "tell 0 2 5 weight 1", "tell 0 2 any 5 weight 1 ", " tell 0 2 any 5 weight 1", "tell  0 2 any 5 weight 1",
    "tell 0 2 Any 5 weight 1", "tell 0 2 none 5 weight 1", "tell 00 2 any 5 weight 1", "tell 0 2 -0 5 weight 1",
    "tell 0 2 any +5 weight 1", "tell 0 2 any 1000000000000 weight 1", "tell 0 2 any 5 weight 1000000000000",
    "Tell 0 2 any 5 weight 1", "claim 0 2 any 5 weight 1", "tell 0 2 any 5 weight 1 1", "tell 0 2 any 05 weight 1",
    "recount", "recount 0 1", "recount 0 1 any", "recount 0 any 4", "recount -1 1 4", "recount 0 -1 4",
    "recount 0 1 4 5",
    "recount 0 1 -04", "recount 0 1 1000000000000", "recount 0 1  4", "recount 0 1 4 ", "recount 0 1 4 weight 1",
    "correct", "correct 3", "correct 3 0", "correct 3 0 any any", "correct -3 0 any", "correct any 0 any",
    "correct 3 0 x",
    "correct 3 0 any weight 1", "correct 03 0 any", "correct 3 -0 any", "correct 3 0 any ", "correct 1000000000000 0 1",
    "withdraw", "withdraw ", "withdraw -3", "withdraw any", "withdraw 3 4", "withdraw 03", "withdraw 3 ", "withdraw  3",
    "doubt", "doubt ", "doubt most", "doubt most -1", "doubt most 100", "doubt within 1000001", "doubt lots 40",
    "doubt lots 1,0", "doubt  most 1", "doubt most 1 ", "doubt both most 1", "doubt both both both both most 1 most 1",
    "doubt both most 1 most 100", "most 1", "undo", "redo", "#",
]


def random_deed(random):
    def number():
        return random.choice([0, 1, 5, 16, 99, 100, 10 ** 6, LONGEST])

    def signed():
        return random.choice([-1, 1]) * number()

    def bound():
        return random.choice([None, signed()])

    return random.choice([
        ("tell", number(), number(), bound(), bound(), number()), ("recount", number(), number(), signed()),
        ("correct", number(), bound(), bound()), ("withdraw", number()),
        ("doubt", format_doubt(random_doubt(random, 3))),
    ])


class DeedsTest(unittest.TestCase):
    def check_bad(self, text, line):
        with self.assertRaises(BadText, msg=repr(text)) as caught:
            parse_deeds(text)
        self.assertEqual(caught.exception.line, line, repr(text))

    def test_lines(self):
        for deed, line in LINES:
            self.assertEqual(check_call(self, format_deeds, [deed]), line)
            self.assertEqual(check_call(self, parse_deeds, line), [deed])
        deeds = [deed for deed, _ in LINES]
        text = "\n".join(line for _, line in LINES)
        self.assertEqual(check_call(self, format_deeds, deeds), text)
        self.assertEqual(check_call(self, parse_deeds, text), deeds)
        self.assertTrue(all(isinstance(deed, tuple) for deed in parse_deeds(text)))

    def test_the_empty_text(self):
        self.assertEqual(check_call(self, format_deeds, []), "")
        self.assertEqual(check_call(self, parse_deeds, ""), [])
        self.check_bad("\n", 1)
        self.check_bad("\n\n", 1)

    def test_wrong_lines(self):
        for wrong in WRONG:
            self.check_bad(wrong, 1)
            self.check_bad(f"withdraw 3\n{wrong}", 2)
            self.check_bad(f"withdraw 3\nwithdraw 4\n{wrong}\nx\nwithdraw 3", 3)

    def test_line_feeds(self):
        self.check_bad("withdraw 3\n", 2)
        self.check_bad("\nwithdraw 3", 1)
        self.check_bad("withdraw 3\n\nwithdraw 4", 2)
        self.check_bad("doubt most 1\nmost 2", 2)
        self.check_bad("doubt both most 1\nmost 2", 1)
        self.assertEqual(parse_deeds("withdraw 3\nwithdraw 3"), [("withdraw", 3)] * 2)

    def test_random_deeds(self):
        random = seeded(651)
        for _ in range(200):
            deeds = [random_deed(random) for _ in range(random.randint(0, 8))]
            text = check_call(self, format_deeds, deeds)
            self.assertEqual(text.count("\n"), max(0, len(deeds) - 1))
            self.assertEqual(check_call(self, parse_deeds, text), deeds)


if __name__ == "__main__":
    unittest.main()
