"""The errors that the program raises."""


class Fault(ValueError):
    """The base class of all errors that the program raises."""


class ZeroDivisor(Fault):
    """A division by something that has no inverse."""


class Malformed(Fault):
    """An argument that does not have the form that the document asks for."""


class Refused(Fault):
    """A request that the program does not carry out."""

    def __init__(self, reason):
        super().__init__(f"refused: {reason}")
        self.reason = reason


class NoText(Fault):
    """A value that is not the text of anything that is read."""

    def __init__(self, at):
        super().__init__(f"no text at {at}")
        self.at = at
