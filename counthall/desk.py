"""The desk: claims and recounts that come late, are corrected or withdrawn."""

from counthall.claims import Claim
from counthall.deeds import deed_in, deed_lines, format_deeds
from counthall.doubts import AtMost, Both, Either, Lots
from counthall.errors import (
    BadText, Contradiction, DeskFull, HallError, InvalidClaim, NothingToRedo, NothingToUndo, UnknownEntry,
)
from counthall.fitting import least_lots
from counthall.frames import Frame
from counthall.halls import Hall
from counthall.holders import rank_ranges
from counthall.settling import cheapest_settling
from counthall.sheaves import sheaf
from counthall.spans import span, standings, verdict
from counthall.tables import closed_table
from counthall.texts import format_doubt, parse_doubt

MOST_CLAIMS = 10
MOST_RECOUNTS = 10
LAST_NUMBER = 39


class Desk:
    """Entries about a frame, and the deeds that made them (points 88 to 96).

    The lists of entries are never changed, only replaced, so that they can be taken back.
    """

    def __init__(self, frame, *, doubt=None):
        self.frame = frame
        self.doubt = AtMost(0) if doubt is None else doubt
        # Item n is the entry with the number n, or None if it is withdrawn.
        self._entries = []
        self._rows = []
        self._past = []
        self._undone = []

    def __iter__(self):
        return iter(self._rows)

    def tell(self, first, second, low=None, high=None, *, weight=1):
        """Make an entry with a claim and return its number (point 89)."""
        if not (self._has_node(first) and self._has_node(second)):
            raise InvalidClaim("nodes")
        Claim(first, second, low, high, weight=weight)
        number = self._next_number("claim", MOST_CLAIMS)
        entry = (number, "claim", first, second, low, high, weight)
        self._do(("tell", first, second, low, high, weight), [*self._entries, entry], self.doubt)
        return number

    def recount(self, first, second, value):
        """Make an entry with a recount and return its number (point 89)."""
        if not (self._has_node(first) and self._has_node(second)) or first == second:
            raise InvalidClaim("nodes")
        number = self._next_number("recount", MOST_RECOUNTS)
        entry = (number, "recount", first, second, value)
        numbers = _contradicted(self.frame, self._of_kind("recount"), entry)
        if numbers is not None:
            raise Contradiction(numbers)
        self._do(("recount", first, second, value), [*self._entries, entry], self.doubt)
        return number

    def correct(self, number, low=None, high=None):
        """Replace both bounds of a standing claim (point 90)."""
        if number not in self.numbers():
            raise UnknownEntry(number)
        old = self._entries[number]
        Claim(old[2], old[3], low, high, weight=old[6])
        entry = (*old[:4], low, high, old[6])
        self._do(("correct", number, low, high), self._with_entry(number, entry), self.doubt)

    def withdraw(self, number):
        """Withdraw a standing claim or recount (point 90)."""
        if number not in [entry[0] for entry in self._rows]:
            raise UnknownEntry(number)
        self._do(("withdraw", number), self._with_entry(number, None), self.doubt)

    def set_doubt(self, doubt):
        """Replace the doubt (point 90)."""
        self._do(("doubt", format_doubt(doubt)), self._entries, doubt)

    def undo(self):
        """Take back the last deed that is in effect (point 91)."""
        if not self._past:
            raise NothingToUndo("no deed is in effect")
        deed, entries, doubt = self._past.pop()
        self._undone.append((deed, self._entries, self.doubt))
        self._put(entries, doubt)

    def redo(self):
        """Bring the deed into effect again that was taken back most recently (point 91)."""
        if not self._undone:
            raise NothingToRedo("no deed can be done again")
        deed, entries, doubt = self._undone.pop()
        self._past.append((deed, self._entries, self.doubt))
        self._put(entries, doubt)

    def standing(self):
        """The standing entries in ascending order of their numbers (point 92)."""
        return list(self._rows)

    def numbers(self):
        """The numbers of the standing claims (point 92)."""
        return [entry[0] for entry in self._of_kind("claim")]

    def hall(self):
        """The hall of the standing entries and the present doubt (point 92)."""
        recounts = [(*entry[2:], entry[4]) for entry in self._of_kind("recount")]
        told = [entry[2:] for entry in self._of_kind("claim")]
        claims = [Claim(first, second, low, high, weight=weight) for first, second, low, high, weight in told]
        places = {number: at for at, number in enumerate(self.numbers())}
        frame = Frame(self.frame.size, [*self.frame.rules, *recounts])
        return Hall(frame, claims, doubt=_by_places(self.doubt, places))

    def span(self, first, second):
        """The least and the greatest difference of two nodes in the fitting worlds (point 93)."""
        return span(self.hall(), first, second)

    def verdict(self, first, second, low=None, high=None):
        """The word for whether a difference lies between two bounds (point 93)."""
        return verdict(self.hall(), first, second, low, high)[0]

    def standings(self):
        """For each standing claim its number and whether it holds (point 93)."""
        return list(zip(self.numbers(), standings(self.hall())))

    def ranks(self, holders):
        """For each holder its best and its worst rank (point 93)."""
        return rank_ranges(self.hall(), holders)

    def settle(self, first, second, high, offers):
        """The price and the index of the cheapest recount that settles a bound, or None (point 93)."""
        return cheapest_settling(self.hall(), first, second, high, offers)

    def least_lots(self):
        """The least lots of the entries that may be the untrue ones (point 93)."""
        numbers = self.numbers()
        return [[numbers[index] for index in lot] for lot in least_lots(self.hall())]

    def sheaf(self, first, second, high):
        """A sheaf for a bound, with the numbers of entries, or None (point 93)."""
        papers = sheaf(self.hall(), first, second, high)
        if papers is None:
            return None
        return [(start, [self._entry_link(link) for link in chain]) for start, chain in papers]

    def attempt(self, deeds, first, second):
        """The span of two nodes as it would be after some deeds (point 95)."""
        # The deeds are done at another desk, so nothing has to be taken back here.
        other = Desk(self.frame, doubt=self.doubt)
        other._put(self._entries, self.doubt)
        for deed in deeds:
            _do_deed(other, deed)
        return other.span(first, second)

    def deeds(self):
        """The deeds that are in effect, in their order (point 96)."""
        return [done[0] for done in self._past]

    def journal(self):
        """The text of the deeds that are in effect (point 96)."""
        return format_deeds(self.deeds())

    def _has_node(self, node):
        return 0 <= node < self.frame.size

    def _of_kind(self, kind):
        return [entry for entry in self._rows if entry[1] == kind]

    def _next_number(self, kind, most):
        """The number of a new entry of this kind, of which at most so many may stand."""
        if len(self._of_kind(kind)) >= most or len(self._entries) > LAST_NUMBER:
            raise DeskFull(f"no further {kind} can be taken")
        return len(self._entries)

    def _with_entry(self, number, entry):
        return [entry if at == number else other for at, other in enumerate(self._entries)]

    def _do(self, deed, entries, doubt):
        """Note a deed and what was before it, and put what it makes."""
        self._past.append((deed, self._entries, self.doubt))
        self._undone = []
        self._put(entries, doubt)

    def _put(self, entries, doubt):
        self._entries = entries
        self._rows = [entry for entry in entries if entry is not None]
        self.doubt = doubt

    def _entry_link(self, link):
        """The link of the desk's hall with the number of an entry in the place of an index."""
        source, index, direction = link
        if source == "claim":
            return source, self.numbers()[index], direction
        rules = len(self.frame.rules)
        if index < rules:
            return link
        return "recount", self._of_kind("recount")[index - rules][0], direction


def replay(frame, text, *, doubt=None):
    """A new desk that has done the deeds of a journal (point 98)."""
    desk = Desk(frame, doubt=doubt)
    for number, line in enumerate(deed_lines(text), start=1):
        deed = deed_in(line)
        if deed is None:
            raise BadText(number)
        try:
            _do_deed(desk, deed)
        except HallError:
            raise BadText(number) from None
    return desk


def _do_deed(desk, deed):
    kind = deed[0]
    if kind == "tell":
        _, first, second, low, high, weight = deed
        desk.tell(first, second, low, high, weight=weight)
    elif kind == "recount":
        _, first, second, value = deed
        desk.recount(first, second, value)
    elif kind == "correct":
        _, number, low, high = deed
        desk.correct(number, low, high)
    elif kind == "withdraw":
        desk.withdraw(deed[1])
    else:
        desk.set_doubt(parse_doubt(deed[1]))


def _contradicted(frame, recounts, new):
    """The numbers of recounts that leave no world together with a new one, or None if there is one."""
    kept = [*recounts, new]
    if _has_world(frame, kept):
        return None
    for entry in recounts[::-1]:
        fewer = [other for other in kept if other[0] != entry[0]]
        if not _has_world(frame, fewer):
            kept = fewer
    return [entry[0] for entry in kept if entry[0] != new[0]]


def _has_world(frame, recounts):
    claims = [Claim(entry[2], entry[3], entry[4], entry[4]) for entry in recounts]
    return closed_table(frame, claims) is not None


def _by_places(doubt, places):
    """The doubt about claims of a hall, from one about entries whose numbers have these places in it."""
    if isinstance(doubt, Lots):
        return Lots([[places[number] for number in lot if number in places] for lot in doubt.lots])
    if isinstance(doubt, Both):
        return Both(_by_places(doubt.first, places), _by_places(doubt.second, places))
    if isinstance(doubt, Either):
        return Either(_by_places(doubt.first, places), _by_places(doubt.second, places))
    return doubt
