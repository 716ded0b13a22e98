"""The errors that the program raises, all of them under GuardError."""


class GuardError(ValueError):
    """The base class of all errors of the program."""


class BadLetter(GuardError):
    """A letter is not one of the kind that is asked for."""


class BadCondition(GuardError):
    """A condition does not fit the kind."""


class BadTerm(GuardError):
    """A term does not fit from the one kind to the other one."""


class OtherKinds(GuardError):
    """The kinds of two things are not as asked for."""


class Unread(GuardError):
    """Some letter meets the condition of a step, and not all terms of the step are there for it."""

    def __init__(self, step, letter):
        super().__init__("not all terms of the step are there for a letter that meets its condition")
        self.step = step
        self.letter = letter


class NotPlain(GuardError):
    """More than one path stands in the terms of a step."""

    def __init__(self, step):
        super().__init__("more than one path stands in the terms of the step")
        self.step = step


class NotSingle(GuardError):
    """Some word has two results by a translation."""

    def __init__(self, number):
        super().__init__("some word has two results by the translation")
        self.number = number


class TooMany(GuardError):
    """There are more actions or states than are gone through."""


class UnknownName(GuardError):
    """A desk does not have the name."""

    def __init__(self, name):
        super().__init__("the desk does not have the name")
        self.name = name


class TooLarge(GuardError):
    """A definition would have too great a weight."""

    def __init__(self, name):
        super().__init__("the definition of the name would be too large")
        self.name = name


class WrongUse(GuardError):
    """A name does not have the role that is asked for."""

    def __init__(self, name):
        super().__init__("the name does not have the role that is asked for")
        self.name = name


class InUse(GuardError):
    """Another name uses the name directly."""

    def __init__(self, name):
        super().__init__("another name uses the name")
        self.name = name


class Circle(GuardError):
    """A name would use itself."""


class NothingToUndo(GuardError):
    """The log of a desk has fewer changes than are to be undone."""
