"""The errors of this package: all stand directly under WireError."""


class WireError(ValueError):
    """The base of all errors of this package."""


class InvalidSheet(WireError):
    """A value that is no sheet stands where a sheet is due."""


class InvalidTerm(WireError):
    """A value stands where a term without refs is due."""


class InvalidName(WireError):
    """A value is not a name that can stand there."""


class InvalidPlace(WireError):
    """A value is no place of the sheet."""


class InvalidNames(WireError):
    """Names clash, or are no names of entries."""


class InvalidThing(WireError):
    """A value is no thing of the sheet, or no plain thing."""


class InvalidBits(WireError):
    """A value is no string of the signs 0 and 1."""


class InvalidIndex(WireError):
    """A value is no index into the bits."""


class InvalidCount(WireError):
    """A value is no number of the allowed size."""


class InvalidPrice(WireError):
    """A value is no integer of at most twelve digits."""


class InvalidAcceptor(WireError):
    """A value is no least acceptor."""


class InvalidTeller(WireError):
    """A value is no least teller."""


class InvalidState(WireError):
    """A value is no state that can stand there."""


class InvalidDamage(WireError):
    """A value is none of the four words of damage."""


class InvalidHoled(WireError):
    """A value is no string of bits with holes."""


class InvalidTable(WireError):
    """A value is no height table that holds."""


class InvalidMap(WireError):
    """A value is no map."""


class InvalidChart(WireError):
    """A value is no clean chart."""


class InvalidStep(WireError):
    """There is no such rewriting of the term."""


class InvalidSteps(WireError):
    """A value is no rewriting row of the term."""


class InvalidCode(WireError):
    """A value is no code."""


class UnsoundCode(WireError):
    """A code has a code fault."""


class InvalidHeld(WireError):
    """A value is no held state that fits the code."""


class InvalidStream(WireError):
    """A value is no stream of the code."""


class InvalidWire(WireError):
    """A value is no wire."""


class InvalidLink(WireError):
    """A value is no link of the wire."""


class InvalidSpot(WireError):
    """A value is no tuple of integers from 0 on."""


class NoRef(WireError):
    """No ref stands at the place."""


class Unfit(WireError):
    """What was handed in does not fit what is asked."""


class NoSpot(WireError):
    """The thing, or each thing, lacks the spot."""


class NotFixed(WireError):
    """The spot is not fixed."""


class Refused(WireError):
    """The bench can not do the deed as it stands."""


class NothingToUndo(WireError):
    """There is no deed that can be taken back."""


class NoBlock(WireError):
    """No block is open on the bench."""


class InvalidCommand(WireError):
    """A value is no command of the console."""


class NotReady(WireError):
    """The console has no bench yet."""


class InvalidText(WireError):
    """A text can not go on as it does at the index."""

    def __init__(self, index):
        super().__init__(f"wrong text at index {index}")
        self.index = index


class Faulty(WireError):
    """A sheet has faults."""

    def __init__(self, faults):
        super().__init__(f"the sheet has faults: {faults}")
        self.faults = faults


class Endless(WireError):
    """A sheet is not flat; the entry with this name has a ref of a ring."""

    def __init__(self, name):
        super().__init__(f"rings in the entry {name}")
        self.name = name


class TooMany(WireError):
    """What is asked for would be larger than the count tells."""

    def __init__(self, count):
        super().__init__(f"too many, against {count}")
        self.count = count


class NotCarried(WireError):
    """The thing with this number can not be carried over."""

    def __init__(self, number):
        super().__init__(f"thing {number} is not carried")
        self.number = number


class InvalidPieces(WireError):
    """The entry with this index is no piece that can stand there."""

    def __init__(self, index):
        super().__init__(f"wrong piece at index {index}")
        self.index = index


class UnknownLine(WireError):
    """No line has this name."""

    def __init__(self, name):
        super().__init__(f"unknown line {name!r}")
        self.name = name


class InvalidDeeds(WireError):
    """The entry with this index is no deed that can be done."""

    def __init__(self, index):
        super().__init__(f"wrong deed at index {index}")
        self.index = index
