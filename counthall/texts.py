"""Texts of doubts and halls."""

from counthall.claims import Claim
from counthall.doubts import AtMost, Both, Either, Lots, Within
from counthall.errors import BadText
from counthall.frames import Frame
from counthall.halls import Hall

MOST_DIGITS = 12
MOST_DEPTH = 3
DOUBT_LINE = 3


def format_doubt(doubt):
    """The text of a doubt (point 86)."""
    if isinstance(doubt, AtMost):
        return f"most {doubt.count}"
    if isinstance(doubt, Within):
        return f"within {doubt.limit}"
    if isinstance(doubt, Lots):
        return f"lots {_lots_word(doubt.lots)}"
    word = "both" if isinstance(doubt, Both) else "either"
    return f"{word} {format_doubt(doubt.first)} {format_doubt(doubt.second)}"


def parse_doubt(text):
    """The doubt with this text (point 86)."""
    parts = _doubt_parts(text.split(" "))
    if parts is None:
        raise BadText(1)
    return _doubt_of(parts)


def format_hall(hall):
    """The text of a hall (point 87)."""
    lines = [f"nodes {hall.frame.size}"]
    lines.extend([f"rule {first} {second} {low} {high}" for first, second, low, high in hall.frame.rules])
    lines.extend([f"claim {claim_words(claim.parts())}" for claim in hall.claims])
    return "\n".join([*lines, f"doubt {format_doubt(hall.doubt)}"])


def parse_hall(text):
    """The hall with this text (point 87)."""
    lines = text.split("\n")
    # Item k has what the lines of the kind with this number tell, in their order.
    told = [[], [], [], []]
    before = -1
    for number, line in enumerate(lines, start=1):
        kind, parts = _line_parts(line)
        if not _stands_well(before, kind):
            raise BadText(number)
        told[kind].append(parts)
        before = kind
    if before != DOUBT_LINE:
        raise BadText(len(lines) + 1)
    sizes, rules, claims, doubts = told
    frame = Frame(sizes[0][0], rules)
    made = [Claim(first, second, low, high, weight=weight) for first, second, low, high, weight in claims]
    return Hall(frame, made, doubt=_doubt_of(doubts[0]))


def claim_words(parts):
    """The words of the parts of a claim, as they stand in a line."""
    first, second, low, high, weight = parts
    return f"{first} {second} {bound_word(low)} {bound_word(high)} weight {weight}"


def bound_word(bound):
    """The word of a bound that may be None."""
    return "any" if bound is None else str(bound)


def parts_in(line, form):
    """What the words of a line tell, or None if the line has not this form.

    In a form, N stands for a number without a sign, Z for any number, and B for a bound, which may
    be `any`. All other words of it stand for themselves.
    """
    words = line.split(" ")
    kinds = form.split(" ")
    if len(words) != len(kinds) or not all(_is_of(word, kind) for word, kind in zip(words, kinds)):
        return None
    told = [word for word, kind in zip(words, kinds) if kind in ("N", "Z", "B")]
    return [None if word == "any" else int(word) for word in told]


def _is_of(word, kind):
    if kind == "N":
        return _is_count(word)
    if kind == "Z":
        return _is_number(word)
    if kind == "B":
        return word == "any" or _is_number(word)
    return word == kind


def _is_count(word):
    """Whether the word is a number without a sign."""
    if not (word.isascii() and word.isdigit() and len(word) <= MOST_DIGITS):
        return False
    return word == "0" or word[0] != "0"


def _is_number(word):
    if word.startswith("-"):
        return word != "-0" and _is_count(word[1:])
    return _is_count(word)


def _line_parts(line):
    """The number of a line's kind and what the line tells; the kind is None if the line is not right."""
    words = line.split(" ")
    if words[0] == "doubt":
        parts = _doubt_parts(words[1:])
        return (None if parts is None else DOUBT_LINE), parts
    for kind, form in enumerate(("nodes N", "rule N N Z Z", "claim N N B B weight N")):
        parts = parts_in(line, form)
        if parts is not None:
            return kind, parts
    return None, None


def _stands_well(before, kind):
    """Whether a line of a kind may stand behind a line of another one, which is -1 at the start."""
    if kind is None or before == DOUBT_LINE:
        return False
    return kind == 0 if before == -1 else kind > 0 and kind >= before


def _lots_word(lots):
    if not lots:
        return "none"
    return "/".join([",".join([str(number) for number in lot]) if lot else "-" for lot in lots])


def _lots_in(word):
    """The lots that a word tells, or None if it is not the word of lots."""
    if word == "none":
        return []
    lots = [_lot_in(part) for part in word.split("/")]
    if any(lot is None for lot in lots):
        return None
    return lots if _ascends(lots) else None


def _lot_in(word):
    if word == "-":
        return []
    numbers = word.split(",")
    if not all(_is_count(number) for number in numbers):
        return None
    lot = [int(number) for number in numbers]
    return lot if _ascends(lot) else None


def _ascends(values):
    return all(value < further for value, further in zip(values, values[1:]))


def _doubt_parts(words):
    """The parts of the doubt that the words tell, or None if they are not the words of a doubt."""
    read = _read_doubt(words, 0, MOST_DEPTH)
    return None if read is None or read[1] < len(words) else read[0]


def _read_doubt(words, at, deep):
    """The parts of a doubt at most so deep that begins at a word, and the place behind it, or None."""
    if at + 2 > len(words):
        return None
    head = words[at]
    word = words[at + 1]
    if head in ("both", "either"):
        return _read_joined(words, at, deep)
    if head == "lots":
        lots = _lots_in(word)
        return None if lots is None else ((head, lots), at + 2)
    if head in ("most", "within") and _is_count(word):
        return (head, int(word)), at + 2
    return None


def _read_joined(words, at, deep):
    first = None if deep == 0 else _read_doubt(words, at + 1, deep - 1)
    second = None if first is None else _read_doubt(words, first[1], deep - 1)
    return None if second is None else ((words[at], first[0], second[0]), second[1])


def _doubt_of(parts):
    """The doubt with these parts; they are refused from left to right."""
    if parts[0] == "most":
        return AtMost(parts[1])
    if parts[0] == "within":
        return Within(parts[1])
    if parts[0] == "lots":
        return Lots(parts[1])
    first = _doubt_of(parts[1])
    second = _doubt_of(parts[2])
    return Both(first, second) if parts[0] == "both" else Either(first, second)
