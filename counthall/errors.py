"""All errors that the program raises."""


class HallError(ValueError):
    """The base class of all errors of the program."""


class InvalidFrame(HallError):
    """A frame that cannot be made; `part` says what is wrong with it."""

    def __init__(self, part):
        super().__init__(f"the frame is refused: {part}")
        self.part = part


class InvalidClaim(HallError):
    """A claim that cannot be made; `part` says what is wrong with it."""

    def __init__(self, part):
        super().__init__(f"the claim is refused: {part}")
        self.part = part


class InvalidDoubt(HallError):
    """A doubt that cannot be made; `part` says what is wrong with it."""

    def __init__(self, part):
        super().__init__(f"the doubt is refused: {part}")
        self.part = part


class InvalidPlan(HallError):
    """A plan that cannot be made; `part` says what is wrong with it."""

    def __init__(self, part):
        super().__init__(f"the plan is refused: {part}")
        self.part = part


class NoSuchNode(HallError):
    """The claim with this `index` names a node that the frame does not have."""

    def __init__(self, index):
        super().__init__(f"claim {index} names a node that the frame does not have")
        self.index = index


class BrokenChain(HallError):
    """The link with this `index` does not exist or begins at another node."""

    def __init__(self, index):
        super().__init__(f"link {index} does not continue the chain")
        self.index = index


class NotSuspect(HallError):
    """The account with this `index` is not one of the suspects."""

    def __init__(self, index):
        super().__init__(f"account {index} is not a suspect")
        self.index = index


class Clash(HallError):
    """No world is possible: the `ring` from the node `start` has a negative total."""

    def __init__(self, start, ring):
        super().__init__(f"no world is possible: a ring from node {start} has a negative total")
        self.start = start
        self.ring = list(ring)


class Contradiction(HallError):
    """A recount contradicts the frame and the recounts with these `numbers`."""

    def __init__(self, numbers):
        super().__init__(f"the recount contradicts the frame and the recounts {list(numbers)}")
        self.numbers = list(numbers)


class UnknownEntry(HallError):
    """No fitting entry with this `number` stands."""

    def __init__(self, number):
        super().__init__(f"no such entry stands: {number}")
        self.number = number


class BadText(HallError):
    """The text is wrong in this `line`, counted from 1."""

    def __init__(self, line):
        super().__init__(f"line {line} of the text is wrong")
        self.line = line


class NoWorld(HallError):
    """No world fits the hall."""


class NoSuspect(HallError):
    """The accounts agree, or no single account explains why they do not."""


class DeskFull(HallError):
    """The desk takes no further entry of this kind."""


class NothingToUndo(HallError):
    """No deed of the desk is in effect."""


class NothingToRedo(HallError):
    """No deed of the desk can be brought into effect again."""
