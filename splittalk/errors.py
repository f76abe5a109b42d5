"""The errors that the program raises."""


class TalkError(ValueError):
    """The base class of all errors that the program raises."""


class BadText(TalkError):
    """A text is none of a formula or of a program; at tells the first wrong word."""

    def __init__(self, at):
        TalkError.__init__(self, f"the text is wrong at word {at}")
        self.at = at


class BadPaper(TalkError):
    """Lines are no paper; at tells the first wrong line."""

    def __init__(self, at):
        TalkError.__init__(self, f"the paper is wrong at line {at}")
        self.at = at


class BadTable(TalkError):
    """Rows make no table; what tells why."""

    def __init__(self, what):
        TalkError.__init__(self, f"no table: {what}")
        self.what = what


class BadTalk(TalkError):
    """Something makes no message; what tells why."""

    def __init__(self, what):
        TalkError.__init__(self, f"no message: {what}")
        self.what = what


class TooLarge(TalkError):
    """Something would be too large; what tells what."""

    def __init__(self, what):
        TalkError.__init__(self, f"too large: {what}")
        self.what = what


class BadRatio(TalkError):
    """A denominator is not positive."""
