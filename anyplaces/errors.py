"""The errors of the package.

Each one stands right under CodeError; the field value holds the argument that was refused, or what
the document names in its place.
"""


class CodeError(ValueError):
    """What all errors of the package are."""


class InvalidNumber(CodeError):
    """No such number is taken here."""

    def __init__(self, value=None):
        CodeError.__init__(self, "not a number that can be taken here")
        self.value = value


class InvalidWidth(CodeError):
    """No width."""

    def __init__(self, value=None):
        CodeError.__init__(self, "not a width")
        self.value = value


class InvalidWords(CodeError):
    """No words at these places."""

    def __init__(self, value=None):
        CodeError.__init__(self, "not words that can be taken here")
        self.value = value


class InvalidPlaces(CodeError):
    """No places of this width, or none of these places."""

    def __init__(self, value=None):
        CodeError.__init__(self, "not places that can be taken here")
        self.value = value


class InvalidItems(CodeError):
    """No such list of items."""

    def __init__(self, value=None):
        CodeError.__init__(self, "not items that can be taken here")
        self.value = value


class InvalidKnown(CodeError):
    """No known words of these places."""

    def __init__(self, value=None):
        CodeError.__init__(self, "not known words of these places")
        self.value = value


class InvalidPrices(CodeError):
    """No prices of these places."""

    def __init__(self, value=None):
        CodeError.__init__(self, "not prices of these places")
        self.value = value


class InvalidGrid(CodeError):
    """No table of these rows and columns."""

    def __init__(self, value=None):
        CodeError.__init__(self, "not a table of these rows and columns")
        self.value = value


class InvalidLine(CodeError):
    """No line of known words."""

    def __init__(self, value=None):
        CodeError.__init__(self, "not a line of known words")
        self.value = value


class InvalidDeed(CodeError):
    """No deed that can be done now, or no store."""

    def __init__(self, value=None):
        CodeError.__init__(self, "not a deed that can be done now")
        self.value = value


class Unfit(CodeError):
    """No codeword has these known words."""

    def __init__(self, value=None):
        CodeError.__init__(self, "no codeword has the known words")
        self.value = value


class TooMany(CodeError):
    """More than can be listed."""

    def __init__(self, value=None):
        CodeError.__init__(self, "too many to be listed")
        self.value = value


class NothingToUndo(CodeError):
    """No deed is left to be taken back."""


class NothingToRedo(CodeError):
    """No deed is left to be done again."""
