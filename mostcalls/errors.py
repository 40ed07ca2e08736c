"""The errors of the package: one class for each kind of failure.

The fields can hold any values, so no message shows them: showing a value could itself fail.
"""


class InvalidName(ValueError):
    """A value that is no name."""

    def __init__(self, value):
        super().__init__("this is no name")
        self.value = value


class InvalidPolicy(ValueError):
    """A field of a policy that is wrong, or a word that is no field."""

    def __init__(self, field):
        super().__init__("a policy does not allow this field")
        self.field = field


class InvalidPolicies(ValueError):
    """Policies that a system does not take: all of them, or the one told."""

    def __init__(self, number):
        super().__init__("a system does not take these policies")
        self.number = number


class InvalidServices(ValueError):
    """Services that a system does not take: all of them, or the one told."""

    def __init__(self, number):
        super().__init__("a system does not take these services")
        self.number = number


class InvalidPart(ValueError):
    """A part of a service that cannot stand at its place."""

    def __init__(self, service, place):
        super().__init__("a service has a wrong part")
        self.service = service
        self.place = place


class InvalidText(ValueError):
    """A text with a line that cannot stand where it stands."""

    def __init__(self, line):
        super().__init__("a line of the text cannot stand there")
        self.line = line


class InvalidChoices(ValueError):
    """A value that tells no choices."""

    def __init__(self, value):
        super().__init__("these are no choices")
        self.value = value


class InvalidChoice(ValueError):
    """A path whose choice is impossible, or that leads nowhere."""

    def __init__(self, path):
        super().__init__("this path has no such choice")
        self.path = path


class InvalidNumber(ValueError):
    """A value that is not a number that is allowed there."""

    def __init__(self, value):
        super().__init__("this number is not allowed here")
        self.value = value


class InvalidRows(ValueError):
    """A value that does not tell numbers by ticks."""

    def __init__(self, value):
        super().__init__("these are no rows")
        self.value = value


class InvalidTable(ValueError):
    """A value that is no table that fits."""

    def __init__(self, value):
        super().__init__("this is no table that fits")
        self.value = value


class InvalidMeasure(ValueError):
    """A value that is no measure."""

    def __init__(self, value):
        super().__init__("this is no measure")
        self.value = value


class InvalidLane(ValueError):
    """A field of a lane that is wrong."""

    def __init__(self, field):
        super().__init__("a lane does not allow this field")
        self.field = field


class InvalidState(ValueError):
    """A value that is no state."""

    def __init__(self, value):
        super().__init__("this is no state")
        self.value = value


class InvalidStep(ValueError):
    """A value that is not a step that is possible there."""

    def __init__(self, value):
        super().__init__("this step is not possible")
        self.value = value


class InvalidLine(ValueError):
    """A field of a line of stations that is wrong."""

    def __init__(self, field):
        super().__init__("a line does not allow this field")
        self.field = field


class InvalidOffer(ValueError):
    """Offers that are none: all of them, or the one told."""

    def __init__(self, number):
        super().__init__("these are no offers")
        self.number = number


class InvalidWish(ValueError):
    """Wishes that are none: all of them, or the one told."""

    def __init__(self, number):
        super().__init__("these are no wishes")
        self.number = number


class InvalidQuestion(ValueError):
    """A question with a word that cannot stand where it stands."""

    def __init__(self, word):
        super().__init__("this is no question")
        self.word = word


class InvalidCommand(ValueError):
    """A command that the console does not have."""

    def __init__(self, word):
        super().__init__("this is no command")
        self.word = word


class UnknownName(LookupError):
    """A value that names nothing that there is."""

    def __init__(self, value):
        super().__init__("there is no such name")
        self.value = value


class TooLong(OverflowError):
    """A service whose span is above the greatest one."""

    def __init__(self, service):
        super().__init__("a service takes too long")
        self.service = service


class LimitExceeded(OverflowError):
    """An answer that was not found within the ticks told."""

    def __init__(self, most):
        super().__init__("the limit was exceeded")
        self.most = most


class NothingToUndo(RuntimeError):
    """An undo without an edit ahead of it."""


class NothingToRedo(RuntimeError):
    """A redo without an undo ahead of it."""


class NoTrial(RuntimeError):
    """The end of a trial, or keep, outside of one."""


class NoSystem(RuntimeError):
    """A command that needs a system, without one."""
