"""Checks of arguments that several modules share."""

from paneplans.errors import InvalidNumber, InvalidPane, InvalidWord

# How a pane lies to the next one where one of the two kinds is asked for.
KINDS = ("left", "above")


def is_number(thing):
    """Tell whether any object is an integer; booleans are none."""
    return type(thing) is int


def is_pane_index(thing, many):
    """Tell whether any object is the index of one of so many panes."""
    return is_number(thing) and 0 <= thing < many


def check_pane(pane, many):
    """Raise InvalidPane unless pane is the index of one of so many panes."""
    if not is_pane_index(pane, many):
        raise InvalidPane("there is no pane of this number")


def check_two_panes(first, second, many):
    """Raise InvalidPane unless these are two different ones of so many panes."""
    check_pane(first, many)
    check_pane(second, many)
    if first == second:
        raise InvalidPane("two different panes are needed")


def check_word(word, words):
    """Raise InvalidWord unless word is one of the words."""
    if word not in words:
        raise InvalidWord("this word cannot stand here")


def check_number(number, least, most=None):
    """Raise InvalidNumber unless this is an integer from least to most, None for no end."""
    if not is_number(number) or number < least or (most is not None and number > most):
        raise InvalidNumber("this number is out of its range")
