"""The errors of the package (point 5).

Each class with a field takes any object for it, or none at all.
"""


class PurseError(ValueError):
    """What all errors of the package are derived from."""


class InvalidWord(PurseError):
    """An argument that has to be a word and is none."""

    def __init__(self, value=None):
        self.value = value


class InvalidBook(PurseError):
    """An argument that has to be a book and is none."""

    def __init__(self, value=None):
        self.value = value


class InvalidEffect(PurseError):
    """An argument that has to be an effect and is none."""

    def __init__(self, value=None):
        self.value = value


class InvalidManner(PurseError):
    """An argument that has to be a manner, perhaps of a manual, and is none."""

    def __init__(self, value=None):
        self.value = value


class InvalidManners(PurseError):
    """An argument that has to be a list of unlike manners and is none."""

    def __init__(self, value=None):
        self.value = value


class InvalidRooms(PurseError):
    """An argument that has to be a list of unlike rooms and is none."""

    def __init__(self, value=None):
        self.value = value


class InvalidManual(PurseError):
    """An argument that has to be a manual and is none."""

    def __init__(self, value=None):
        self.value = value


class InvalidManuals(PurseError):
    """An argument that has to be a list of manuals and is none."""

    def __init__(self, value=None):
        self.value = value


class InvalidChange(PurseError):
    """A change that does not fit."""

    def __init__(self, value=None):
        self.value = value


class InvalidChanges(PurseError):
    """An argument that has to be a list of changes and is none."""

    def __init__(self, value=None):
        self.value = value


class InvalidRoom(PurseError):
    """An argument that has to be a room of a manual and is none."""

    def __init__(self, value=None):
        self.value = value


class InvalidWay(PurseError):
    """An argument that has to be a way and is none."""

    def __init__(self, value=None):
        self.value = value


class InvalidCount(PurseError):
    """An argument that has to be a count, perhaps within bounds, and is none."""

    def __init__(self, value=None):
        self.value = value


class InvalidCard(PurseError):
    """An argument that has to be a card and is none."""

    def __init__(self, value=None):
        self.value = value


class InvalidMark(PurseError):
    """An argument that has to be a mark and is none."""

    def __init__(self, value=None):
        self.value = value


class InvalidExpression(PurseError):
    """An argument that has to be an expression and is none."""

    def __init__(self, value=None):
        self.value = value


class InvalidTable(PurseError):
    """An argument that has to be a table and is none."""

    def __init__(self, value=None):
        self.value = value


class InvalidRests(PurseError):
    """An argument that has to be rests and is none."""

    def __init__(self, value=None):
        self.value = value


class InvalidRule(PurseError):
    """An argument that has to be a rule and is none."""

    def __init__(self, value=None):
        self.value = value


class InvalidLot(PurseError):
    """An argument that has to be a lot and is none."""

    def __init__(self, value=None):
        self.value = value


class InvalidMending(PurseError):
    """An argument that has to be a mending and is none."""

    def __init__(self, value=None):
        self.value = value


class InvalidHouse(PurseError):
    """An argument that has to be a house and is none."""

    def __init__(self, value=None):
        self.value = value


class InvalidSpot(PurseError):
    """An argument that has to be the spot of a book that lies there and is none."""

    def __init__(self, value=None):
        self.value = value


class InvalidScript(PurseError):
    """An argument that has to be a script and is none."""

    def __init__(self, value=None):
        self.value = value


class InvalidText(PurseError):
    """An argument that has to be a text that a writer makes and is none."""

    def __init__(self, value=None):
        self.value = value


class InvalidLog(PurseError):
    """An argument that has to be a log and is none."""

    def __init__(self, value=None):
        self.value = value


class Refused(PurseError):
    """A command of a house, or a manual, that cannot be taken."""

    def __init__(self, value=None):
        self.value = value


class TooMany(PurseError):
    """More than the bound that a point names; the bound."""

    def __init__(self, value=None):
        self.value = value


class NothingToUndo(PurseError):
    """No command of a house is left that could be taken back."""


class NothingToRedo(PurseError):
    """No command of a house that was taken back is left."""
