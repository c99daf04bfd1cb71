"""What is refused, each kind of refusal by a name of its own."""


class BellError(ValueError):
    """Any refusal."""


class BadWaits(BellError):
    """What was handed in is no list of waits; `at` is the first bad place."""

    def __init__(self, at=None):
        # The message shows nothing that was handed in: that may be of any
        # kind, also one that can't be written out.
        super().__init__("these are no waits")
        self.at = at


class NoHand(BellError):
    """What was handed in is no hand."""


class NoLetter(BellError):
    """There is no letter at that place of the row."""
