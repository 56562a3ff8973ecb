"""The errors of the package.

An error that has fields passes nothing on to its base class: Python keeps the
values that an error is made with, and only with these it can be copied.
"""


class PaneError(ValueError):
    """Something that the package was asked for cannot be done."""


class InvalidPlan(PaneError):
    """An object is no plan, or no row, or not one that will do."""


class InvalidSegment(PaneError):
    """An object is no segment of the layout."""


class InvalidSizes(PaneError):
    """An object is no list of sizes, or no size of a desk."""


class InvalidWord(PaneError):
    """A string is none of the words that can stand here."""


class InvalidPane(PaneError):
    """A number is no pane, or not one that will do."""


class InvalidIndex(PaneError):
    """A number is no index."""


class InvalidNumber(PaneError):
    """A number is out of its range."""


class NotAlone(PaneError):
    """A pane is not alone at a side."""


class NotNeighbours(PaneError):
    """Two panes are not alone at both sides of one segment."""


class TooSmall(PaneError):
    """A desk has no room for the panes."""


class NothingToUndo(PaneError):
    """No call is left that can be undone."""


class InvalidLayout(PaneError):
    """An object is no layout.

    pane is the index of the first item that is no pane or overlaps an earlier
    one, None if there is none or the object is no list of 1 to 60 items.
    """

    def __init__(self, pane):
        self.pane = pane


class InvalidCode(PaneError):
    """An object is no code.

    place is the first place whose number cannot stand there, None for any
    object that is no list of at most 59 integers.
    """

    def __init__(self, place):
        self.place = place


class Meeting(PaneError):
    """Four panes would meet at the point (x, y), the least such point."""

    def __init__(self, x, y):
        self.x = x
        self.y = y


class InvalidText(PaneError):
    """A string is no text of a value.

    place is the number of the first word that cannot stand where it stands,
    or the number of words if all can.
    """

    def __init__(self, place):
        self.place = place
