"""The errors that the program raises."""


class Fault(ValueError):
    """The base class of all errors that the program raises."""


class Malformed(Fault):
    """A value does not have the form that it should have."""


class Refused(Fault):
    """A value has the right form, but it is not taken; the reason is one word."""

    def __init__(self, reason):
        self.reason = reason


class NoText(Fault):
    """A text that is read does not stand for anything, from the place `at` on."""

    def __init__(self, at):
        self.at = at
