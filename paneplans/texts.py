"""Texts of layouts, plans and codes: each value has exactly one."""

from paneplans.codes import check_code, find_wrong_place
from paneplans.errors import InvalidText
from paneplans.layouts import MOST_PANES, check_layout, is_layout, is_pane, overlap
from paneplans.plans import check_plan, is_plan

DIGITS = "0123456789"
MOST_DIGITS = 30
NO_NUMBERS = "-"


def write_layout(layout):
    """Return the text of a layout."""
    check_layout(layout)
    return " ".join([write_corners(corners) for corners in layout])


def read_layout(text):
    """Return the layout that has this text."""
    words = text.split(" ")
    panes = []
    for place, word in enumerate(words):
        corners = find_corners(word)
        if place >= MOST_PANES or corners is None or any([overlap(corners, earlier) for earlier in panes]):
            raise InvalidText(place)
        panes.append(corners)
    if not is_layout(panes):
        raise InvalidText(len(words))
    return panes


def write_plan(plan):
    """Return the text of a plan."""
    check_plan(plan)
    return " ".join([str(pane) for pane in plan])


def read_plan(text):
    """Return the plan that has this text."""
    words = text.split(" ")
    plan = []
    for place, word in enumerate(words):
        pane = find_number(word)
        if place >= MOST_PANES or pane is None or not 0 <= pane < len(words) or pane in plan:
            raise InvalidText(place)
        plan.append(pane)
    if not is_plan(plan):
        raise InvalidText(len(words))
    return plan


def write_code(code):
    """Return the text of a code."""
    check_code(code)
    return " ".join([str(number) for number in code]) or NO_NUMBERS


def read_code(text):
    """Return the code that has this text."""
    words = text.split(" ")
    if words == [NO_NUMBERS]:
        return []
    if words[0] == NO_NUMBERS:
        raise InvalidText(1)
    numbers = [find_number(word) for word in words]
    # In a code 0 can stand nowhere, as little as a word that is no number.
    code = [0 if number is None else number for number in numbers]
    most = MOST_PANES - 1
    place = find_wrong_place(code[:most])
    if place is None and len(code) > most:
        place = most
    if place is not None:
        raise InvalidText(place)
    return code


def write_corners(corners):
    """Return the word of a pane."""
    return ",".join([str(number) for number in corners])


def find_corners(word):
    """Return the corners of the pane that has this word, None if it is none."""
    corners = tuple([find_number(part) for part in word.split(",")])
    return corners if is_pane(corners) else None


def find_number(word):
    """Return the number that has this word, None if it is none."""
    digits = word[1:] if word.startswith("-") else word
    if not 1 <= len(digits) <= MOST_DIGITS or not all([digit in DIGITS for digit in digits]):
        return None
    # Neither leading zeros nor -0.
    if digits[0] == "0" and word != "0":
        return None
    return int(word)
