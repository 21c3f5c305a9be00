"""Texts of deeds."""

from counthall.errors import BadText, InvalidDoubt
from counthall.texts import bound_word, claim_words, parse_doubt, parts_in

FORMS = ("tell N N B B weight N", "recount N N Z", "correct N B B", "withdraw N")


def format_deeds(deeds):
    """The text with a line for each deed (point 97)."""
    return "\n".join([_line_of(deed) for deed in deeds])


def parse_deeds(text):
    """The list of the deeds with this text (point 97)."""
    deeds = []
    for number, line in enumerate(deed_lines(text), start=1):
        deed = deed_in(line)
        if deed is None:
            raise BadText(number)
        deeds.append(deed)
    return deeds


def deed_lines(text):
    """The lines of a text of deeds; the empty text has none."""
    return text.split("\n") if text else []


def deed_in(line):
    """The deed that a line tells, or None if it is not the line of a deed."""
    head, _, rest = line.partition(" ")
    if head == "doubt":
        return (head, rest) if _is_doubt(rest) else None
    for form in FORMS:
        parts = parts_in(line, form)
        if parts is not None:
            return (head, *parts)
    return None


def _is_doubt(text):
    try:
        parse_doubt(text)
    except (BadText, InvalidDoubt):
        return False
    return True


def _line_of(deed):
    kind = deed[0]
    if kind == "tell":
        return f"tell {claim_words(deed[1:])}"
    if kind == "correct":
        _, number, low, high = deed
        return f"correct {number} {bound_word(low)} {bound_word(high)}"
    return " ".join([str(part) for part in deed])
