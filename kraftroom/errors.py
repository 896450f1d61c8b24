"""The errors of the program."""


class KraftroomError(ValueError):
    """An error at a place; `name` is the name of its class."""

    def __init__(self, place):
        self.place = place
        self.name = self.__class__.__name__
        ValueError.__init__(self, f"at place {place}")


class Truncated(KraftroomError):
    """The bits or words end before what is read is complete."""


class InvalidWord(KraftroomError):
    """No word begins with the bits that were read."""


class Undecided(KraftroomError):
    """The bits leave the next symbol of a message undecided."""


class InvalidBlock(KraftroomError):
    """A block or an archive says something that cannot be."""
