"""The errors of the program, each directly below one of three base classes.

Each error keeps the values that it is created with, unchanged and not copied.
"""


class StripError(ValueError):
    """A value is invalid."""


class Missing(KeyError):
    """A thing does not exist."""


class Blocked(LookupError):
    """An action is not possible."""


class InvalidName(StripError):
    """A value that must be a name is none."""

    def __init__(self, value):
        StripError.__init__(self, "not a name")
        self.value = value


class InvalidNumber(StripError):
    """A value that must be a number of a certain range is none."""

    def __init__(self, value):
        StripError.__init__(self, "not a valid number")
        self.value = value


class InvalidNumbers(StripError):
    """A value that must hold certain numbers does not."""

    def __init__(self, value):
        StripError.__init__(self, "not valid numbers")
        self.value = value


class InvalidPiece(StripError):
    """A value that must be a piece is none."""

    def __init__(self, value):
        StripError.__init__(self, "not a piece")
        self.value = value


class InvalidMarker(StripError):
    """A value that must be a marker is none."""

    def __init__(self, value):
        StripError.__init__(self, "not a marker")
        self.value = value


class InvalidRow(StripError):
    """A value that must be a row, or hold rings, does not."""

    def __init__(self, value):
        StripError.__init__(self, "not a valid row")
        self.value = value


class Unpaired(StripError):
    """A name does not occur as often as it must."""

    def __init__(self, value):
        StripError.__init__(self, "the name is not paired")
        self.value = value


class TooMany(StripError):
    """There are more of something than allowed."""

    def __init__(self, total):
        StripError.__init__(self, "too many")
        self.total = total


class InvalidStrip(StripError):
    """A value that must be a strip is none."""

    def __init__(self, value):
        StripError.__init__(self, "not a strip")
        self.value = value


class InvalidText(StripError):
    """A value that must be a text is no string."""

    def __init__(self, value):
        StripError.__init__(self, "not a text")
        self.value = value


class InvalidWord(StripError):
    """A text has a word that cannot stand there, or lacks one."""

    def __init__(self, position):
        StripError.__init__(self, "not a valid word")
        self.position = position


class InvalidOperation(StripError):
    """A value that must be an operation is none."""

    def __init__(self, value):
        StripError.__init__(self, "not an operation")
        self.value = value


class InvalidNames(StripError):
    """A value that must hold distinct names does not."""

    def __init__(self, value):
        StripError.__init__(self, "not valid names")
        self.value = value


class InvalidKinds(StripError):
    """A value that must hold kinds of operations does not."""

    def __init__(self, value):
        StripError.__init__(self, "not valid kinds")
        self.value = value


class InvalidList(StripError):
    """A value that must be a certain list is none."""

    def __init__(self, value):
        StripError.__init__(self, "not a valid list")
        self.value = value


class InvalidPosition(StripError):
    """A value that must be a position, or hold some, does not."""

    def __init__(self, value):
        StripError.__init__(self, "not a valid position")
        self.value = value


class DuplicateName(StripError):
    """A name is already in use."""

    def __init__(self, value):
        StripError.__init__(self, "the name is already in use")
        self.value = value


class InvalidUser(StripError):
    """A value that must be a user is none."""

    def __init__(self, value):
        StripError.__init__(self, "not a user")
        self.value = value


class InvalidWorkspace(StripError):
    """A value that must be a workspace is none."""

    def __init__(self, value):
        StripError.__init__(self, "not a workspace")
        self.value = value


class InvalidLine(StripError):
    """A value that must be a command is none."""

    def __init__(self, value):
        StripError.__init__(self, "not a command")
        self.value = value


class InvalidStep(StripError):
    """A history has a line that cannot stand there."""

    def __init__(self, position):
        StripError.__init__(self, "not a valid line")
        self.position = position


class UnknownName(Missing):
    """There is no such name."""

    def __init__(self, value):
        Missing.__init__(self, "no such name")
        self.value = value


class UnknownPart(Missing):
    """There is no such part."""

    def __init__(self, value):
        Missing.__init__(self, "no such part")
        self.value = value


class UnknownStrip(Missing):
    """There is no such strip."""

    def __init__(self, value):
        Missing.__init__(self, "no such strip")
        self.value = value


class NotApplicable(Blocked):
    """An operation cannot be applied."""

    def __init__(self, op, blocker):
        Blocked.__init__(self, "the operation is not applicable")
        self.op = op
        self.blocker = blocker


class Unreachable(Blocked):
    """No operations lead to a result, as a ring keeps a marker."""

    def __init__(self, ring, name):
        Blocked.__init__(self, "a ring keeps a marker")
        self.ring = ring
        self.name = name


class Locked(Blocked):
    """Another user has locked what an action would change."""

    def __init__(self, value):
        Blocked.__init__(self, "locked by another user")
        self.value = value


class Unmatched(Blocked):
    """A name has one marker only."""

    def __init__(self, value):
        Blocked.__init__(self, "the name has one marker only")
        self.value = value


class NothingToUndo(Blocked):
    """There is nothing left to take back."""

    def __init__(self):
        Blocked.__init__(self, "nothing to undo")
