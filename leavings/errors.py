"""The refusals of the program."""


class LeaveError(ValueError):
    """Any refusal."""


class NoPlace(LeaveError):
    """What is handed in is no place that is asked for."""


class NoRow(LeaveError):
    """What is handed in is no row that is left."""


class NoLetters(LeaveError):
    """What is handed in is no text of unlike small letters, rising."""


class NoLetter(LeaveError):
    """What is handed in is no small letter, or one too many."""


class NoText(LeaveError):
    """What is handed in is no text of a list of numbers."""


class NoCommand(LeaveError):
    """What is handed in is no row of words that a desk knows."""
