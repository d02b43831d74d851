"""The refusals: one base, and straight under it one class for each."""


class JudgeError(ValueError):
    """Any refusal."""


class TooMany(JudgeError):
    """There are more than may be told or kept."""


class NoPlace(JudgeError):
    """The tree has no such place."""


class NoRow(JudgeError):
    """The thing is no row, or no case, of the form."""


class NoSuch(JudgeError):
    """No row has this number."""


class NoLine(JudgeError):
    """The text is none that a desk takes."""


class NoText(JudgeError):
    """The text writes no tree; at is the number of the first word that is none where it stands."""

    def __init__(self, at):
        self.at = at


class NoRule(JudgeError):
    """No rule fits some case; case is the first such."""

    def __init__(self, case):
        self.case = case
