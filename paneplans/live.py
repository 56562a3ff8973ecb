"""A desk whose panes are split, closed and dragged, and whose calls can be undone."""

from paneplans.checks import KINDS, check_number, check_word, is_number
from paneplans.closing import closed_layout
from paneplans.errors import InvalidIndex, InvalidPane, InvalidWord, NothingToUndo
from paneplans.joints import dragged_layout
from paneplans.layouts import MOST_PANES, check_no_meeting, move_side, segment_at
from paneplans.relations import falling_row, rising_row


class Desk:
    """A desk with panes that have names.

    The lists that it keeps are never changed, each call keeps new ones: so what
    was before a call can be kept as it is, and shared with a twin.
    """

    def __init__(self, width, height):
        check_number(width, 1)
        check_number(height, 1)
        self._width = width
        self._height = height
        self._names = [0]
        self._panes = [(0, 0, width, height)]
        # The next new name.
        self._fresh = 1
        # Names, panes and next name ahead of each call that can be undone.
        self._past = []

    @property
    def width(self):
        """Return the width of the desk."""
        return self._width

    @property
    def height(self):
        """Return the height of the desk."""
        return self._height

    @property
    def names(self):
        """Return the names of the panes, ascending."""
        return list(self._names)

    @property
    def panes(self):
        """Return the corners of the panes in the sequence of their names."""
        return list(self._panes)

    def __len__(self):
        """Return how many calls can be undone."""
        return len(self._past)

    def split(self, name, kind, place):
        """Cut a pane at a place into two side by side ("left") or one above the other ("above")."""
        if len(self._panes) == MOST_PANES:
            raise InvalidPane("there is no room for one pane more")
        pane = find_index(self._names, name)
        check_word(kind, KINDS)
        panes = find_split(self._panes, pane, kind, place)
        self._keep(self._names + [self._fresh], panes, self._fresh + 1)

    def close(self, name, side):
        """Take a pane away; the panes beyond one of its sides take its room."""
        pane = find_index(self._names, name)
        panes = closed_layout(self._panes, pane, side)
        self._keep([other for other in self._names if other != name], panes, self._fresh)

    def drag(self, name, side, place):
        """Move the segment at a side of a pane to a place."""
        pane = find_index(self._names, name)
        segment = segment_at(self._panes, pane, side)
        if segment is None:
            raise InvalidWord("there is no segment at the border")
        panes = dragged_layout(self._panes, segment, place)
        self._keep(self._names, panes, self._fresh)

    def undo(self):
        """Undo the last call that is left."""
        if len(self._past) == 0:
            raise NothingToUndo("no call is left that can be undone")
        self._go_back(len(self._past) - 1)

    def mark(self):
        """Return how many calls can be undone."""
        return len(self._past)

    def undo_to(self, index):
        """Undo calls until so many are left."""
        if not is_number(index) or not 0 <= index <= len(self._past):
            raise InvalidIndex("so many calls cannot be left")
        if index < len(self._past):
            self._go_back(index)

    def twin(self):
        """Return an independent copy."""
        other = Desk(self._width, self._height)
        other._names = self._names
        other._panes = self._panes
        other._fresh = self._fresh
        other._past = self._past
        return other

    def falling(self):
        """Return the names in the falling row."""
        return [self._names[pane] for pane in falling_row(self._panes)]

    def rising(self):
        """Return the names in the rising row."""
        return [self._names[pane] for pane in rising_row(self._panes)]

    def _keep(self, names, panes, fresh):
        self._past = self._past + [(self._names, self._panes, self._fresh)]
        self._names = names
        self._panes = panes
        self._fresh = fresh

    def _go_back(self, index):
        self._names, self._panes, self._fresh = self._past[index]
        self._past = self._past[:index]


def find_index(names, name):
    """Return the index of a name, InvalidPane if there is no such name."""
    if not is_number(name) or name not in names:
        raise InvalidPane("there is no pane of this name")
    return names.index(name)


def find_split(panes, pane, kind, place):
    """Return panes with one cut at a place, its new right or lower part behind all others."""
    far = 2 if kind == "left" else 3
    corners = panes[pane]
    check_number(place, corners[far - 2] + 1, corners[far] - 1)
    parted = panes[:pane] + [move_side(corners, far, place)] + panes[pane + 1:]
    parted.append(move_side(corners, far - 2, place))
    check_no_meeting(parted)
    return parted
