"""The errors that the program raises.

Their texts show no values: an integer of many thousand digits cannot be shown in every Python.
"""


class MendError(ValueError):
    """The base class of all errors of the program."""


class NoSchema(MendError):
    """What was passed is not a schema."""


class NoRow(MendError):
    """What was passed is not a fact of the schema."""


class NoPlan(MendError):
    """The join has no plan."""


class NoQuestion(MendError):
    """The question is not valid; join is the least index of a wrong join, or None."""

    def __init__(self, join):
        super().__init__("the question is not valid for the schema")
        self.join = join


class BadText(MendError):
    """The text cannot be read; line and at tell the place of the first fault."""

    def __init__(self, line, at):
        super().__init__("the text cannot be read")
        self.line = line
        self.at = at


class NoKept(MendError):
    """No question is kept under the number."""

    def __init__(self, number):
        super().__init__("no question is kept under this number")
        self.number = number
