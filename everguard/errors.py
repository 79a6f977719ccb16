"""The refusals: one class for each, all straight under GuardError."""


class GuardError(ValueError):
    """Any refusal."""


class BadMachine(GuardError):
    """A machine's text has a row at fault: the row's number, and the word for what is wrong."""

    def __init__(self, place, word):
        GuardError.__init__(self, place, word)
        self.place = place
        self.word = word


class NoWall(GuardError):
    """What was handed in as a wall is none: the word for what fails, and the piece's number."""

    def __init__(self, word, place):
        GuardError.__init__(self, word, place)
        self.word = word
        self.place = place


class BadAnswer(GuardError):
    """A text of answers has a row that is not so written: the row's number."""

    def __init__(self, place):
        GuardError.__init__(self, place)
        self.place = place
