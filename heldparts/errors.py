"""The errors that this package raises."""


class HeldError(Exception):
    """What all errors of this package are."""


class NoStore(HeldError):
    """There is no such store."""

    def __init__(self, word):
        self.word = word


class Ring(NoStore):
    """A change would stand before itself: each name behind the next one, the last one behind the first."""

    def __init__(self, names):
        self.word = "ring"
        self.names = names


class NoLot(HeldError):
    """A value is no lot of the store."""

    def __init__(self, names):
        self.names = names


class NoEdit(HeldError):
    """There is no such edit."""

    def __init__(self, word):
        self.word = word


class Noticed(NoEdit):
    """An edit is noticed, by this stranger."""

    def __init__(self, stranger):
        self.word = "noticed"
        self.stranger = stranger


class NoContext(HeldError):
    """There is no such context, or it does not suit."""

    def __init__(self, word):
        self.word = word


class NoModule(HeldError):
    """There is no such module, because of this part."""

    def __init__(self, part):
        self.part = part


class NoWrite(HeldError):
    """These changes cannot be written together now."""

    def __init__(self, names):
        self.names = names


class NotHeld(HeldError):
    """A handle holds nothing that still waits."""

    def __init__(self, handle):
        self.handle = handle


class TooMany(HeldError):
    """There are more than this limit."""

    def __init__(self, limit):
        self.limit = limit


class InvalidText(HeldError):
    """A value is no text of a store."""


class InvalidCommand(HeldError):
    """A value is no command, or none that can be executed now."""


class NothingDone(HeldError):
    """There is nothing to take back."""
