"""The errors of dialpack: each one is directly a LockError."""


class LockError(ValueError):
    """The base of all errors; takes one string."""

    def __init__(self, text):
        ValueError.__init__(self, text)


class InvalidWheel(LockError):
    """A wheel is no wheel of its lock, or none that can be asked for here."""


class InvalidDial(LockError):
    """A place of the dial is no integer."""


class InvalidTurn(LockError):
    """A turn is no integer, or it is 0."""


class InvalidNumber(LockError):
    """A number is no integer, or it is too small or too great."""


class Impossible(LockError):
    """What is asked for cannot be with these arguments, each of which is valid."""


class NothingToUndo(LockError):
    """There is no call that could be taken back."""


class InvalidCommand(LockError):
    """A command has none of the forms of commands."""


class InvalidLock(LockError):
    """A value is no lock; the index is that of the wrong part, None for the whole."""

    def __init__(self, index):
        LockError.__init__(self, f"not a lock (index: {index})")
        self.index = index


class InvalidState(LockError):
    """A value is no state of its lock; the index is that of the wrong part, None for the whole."""

    def __init__(self, index):
        LockError.__init__(self, f"not a state of the lock (index: {index})")
        self.index = index


class InvalidTurns(LockError):
    """A value is no list of turns; the index is that of the first wrong item, None for the whole."""

    def __init__(self, index):
        LockError.__init__(self, f"not a list of turns (index: {index})")
        self.index = index


class InvalidGates(LockError):
    """A value is no gates for its lock; the index is that of the first wrong item, None for the whole."""

    def __init__(self, index):
        LockError.__init__(self, f"not gates for the lock (index: {index})")
        self.index = index


class InvalidSpans(LockError):
    """A value is no spans for its lock; the index is that of the first wrong item, None for the whole."""

    def __init__(self, index):
        LockError.__init__(self, f"not spans for the lock (index: {index})")
        self.index = index


class InvalidTries(LockError):
    """A value is no tries of its lock; the index is that of the first wrong item, None for the whole."""

    def __init__(self, index):
        LockError.__init__(self, f"not tries of the lock (index: {index})")
        self.index = index


class InvalidSyntax(LockError):
    """A text has not its form; the word is the index of the first wrong one, None for the whole."""

    def __init__(self, word):
        LockError.__init__(self, f"not a text of this form (word: {word})")
        self.word = word
