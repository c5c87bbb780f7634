"""The errors of the package."""


class FormError(ValueError):
    """What stands above all errors of the package."""


class InvalidText(FormError):
    """No text of the right shape, or a name in it that is not seen; None for what is no text at all."""

    def __init__(self, place):
        self.place = place


class InvalidTerm(FormError):
    """No term, or no pattern, of the book."""

    def __init__(self, given):
        self.given = given


class InvalidSource(FormError):
    """No source of the book."""

    def __init__(self, given):
        self.given = given


class InvalidProgram(FormError):
    """No program."""

    def __init__(self, given):
        self.given = given


class InvalidNumber(FormError):
    """No whole number of the told ones."""

    def __init__(self, given):
        self.given = given


class InvalidName(FormError):
    """No name, or no line, of the told ones."""

    def __init__(self, given):
        self.given = given


class InvalidPlace(FormError):
    """No place of the told ones."""

    def __init__(self, given):
        self.given = given


class InvalidRows(FormError):
    """No code with bodies that fit."""

    def __init__(self, given):
        self.given = given


class InvalidSizes(FormError):
    """No sizes of a machine."""

    def __init__(self, given):
        self.given = given


class InvalidBook(FormError):
    """No book: the index of the first wrong form, None for no tuple of forms."""

    def __init__(self, index):
        self.index = index


class InvalidParts(FormError):
    """No parts to be put in: the index of the first wrong one, None for no tuple of them."""

    def __init__(self, index):
        self.index = index


class InvalidWays(FormError):
    """No ways to lead by: the index of the first wrong one, None for no tuple of them."""

    def __init__(self, index):
        self.index = index


class InvalidNames(FormError):
    """No names as told: the index of the first wrong one, None for no tuple of as many."""

    def __init__(self, index):
        self.index = index


class InvalidMemory(FormError):
    """No sound memory."""

    def __init__(self, index):
        self.index = index


class InvalidDevice(FormError):
    """No device."""

    def __init__(self, index):
        self.index = index


class InvalidWrites(FormError):
    """No writes of the device."""

    def __init__(self, index):
        self.index = index


class NoValue(FormError):
    """A box that holds no value."""

    def __init__(self, index):
        self.index = index


class BadRows(FormError):
    """Rows that break the shape."""

    def __init__(self, index):
        self.index = index


class Captured(FormError):
    """A text with these names would not read as the source again."""


class TooGreat(FormError):
    """A result that would be too long or too deep."""


class NoRoom(FormError):
    """Too little room."""


class DoesNotStand(FormError):
    """A form that does not stand there."""


class NotNow(FormError):
    """Nothing that can be done now."""


class NotMended(FormError):
    """A device that is not mended."""


class NotThere(FormError):
    """Nothing is there."""
