"""The errors: each is a JumpError and has the value that the document names."""


class JumpError(ValueError):
    """What all errors of the package are; value is what was wrong."""

    def __init__(self, value):
        self.value = value


class InvalidOrder(JumpError):
    """What should be an order is none."""


class InvalidPlace(JumpError):
    """The next thing can't be put at this place."""


class InvalidJump(JumpError):
    """What should be a jump is none."""


class InvalidBar(JumpError):
    """What should be a bar, or bars, is none."""


class InvalidSaying(JumpError):
    """What should be a saying is none."""


class InvalidNumber(JumpError):
    """A number is none that can stand here."""


class InvalidPair(JumpError):
    """Two orders have unlike many things."""


class InvalidWalk(JumpError):
    """What should be a list or tuple of orders is none."""


class NotMeant(JumpError):
    """A saying does not mean an order."""


class NotTame(JumpError):
    """A family is not tame to as many things."""


class InvalidKind(JumpError):
    """What should be a kind is none."""


class InvalidThing(JumpError):
    """What should be a thing of a kind, or a direction of a web, is none."""


class InvalidWeb(JumpError):
    """What should be a web is none."""


class InvalidPrices(JumpError):
    """What should be prices are none."""


class HasRound(JumpError):
    """A web can't be taken apart by corners."""


class InvalidName(JumpError):
    """What should be a name is none."""


class UnknownName(JumpError):
    """No saying is kept under a name."""


class NothingToUndo(JumpError):
    """Nothing is left to be taken back."""


class Unreadable(JumpError):
    """A text shows nothing that could be read."""


class Unorderly(JumpError):
    """A text is none that a console can do."""
