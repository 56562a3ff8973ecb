"""Sessions: lines that split, close and drag the panes of a desk, and ask how they lie."""

from paneplans.closing import open_sides
from paneplans.errors import PaneError
from paneplans.live import Desk, find_index
from paneplans.relations import plan_of, way_of
from paneplans.texts import find_number, write_corners

# For each command its further words: N for a number, W for any word.
FORMS = {
    "desk": "NN", "split": "NWN", "close": "NW", "drag": "NWN", "undo": "", "back": "N", "names": "", "pane": "N",
    "falling": "", "rising": "", "plan": "", "way": "NN", "open": "N"}


def session(rows):
    """Return the answers to lines, one line for each."""
    desk = None
    answers = []
    for line in rows.split("\n"):
        call = find_call(line)
        if call is None or (desk is None and call[0] != "desk"):
            answers.append("?")
            continue
        try:
            if call[0] == "desk":
                desk = Desk(call[1], call[2])
                answer = "ok"
            else:
                answer = find_answer(desk, call)
        except PaneError as error:
            answer = type(error).__name__
        answers.append(answer)
    return "\n".join(answers)


def find_call(line):
    """Return the list of a line's command and its arguments, None if the line has no such form."""
    words = line.split(" ")
    form = FORMS.get(words[0])
    if form is None or len(words) != len(form) + 1 or "" in words:
        return None
    arguments = [find_number(word) if kind == "N" else word for kind, word in zip(form, words[1:])]
    return None if None in arguments else words[:1] + arguments


def find_answer(desk, call):
    """Do what a line says to a desk, and return the answer."""
    match call:
        case ["split", name, kind, place]:
            desk.split(name, kind, place)
        case ["close", name, side]:
            desk.close(name, side)
        case ["drag", name, side, place]:
            desk.drag(name, side, place)
        case ["undo"]:
            desk.undo()
        case ["back", index]:
            desk.undo_to(index)
        case _:
            return find_told(desk, call)
    return "ok"


def find_told(desk, call):
    """Return the answer to a line that changes nothing."""
    names = desk.names
    panes = desk.panes
    match call:
        case ["pane", name]:
            return write_corners(panes[find_index(names, name)])
        case ["falling"]:
            return join_words(desk.falling())
        case ["rising"]:
            return join_words(desk.rising())
        case ["plan"]:
            return join_words(plan_of(panes))
        case ["way", first, second]:
            return way_of(panes, find_index(names, first), find_index(names, second))
        case ["open", name]:
            return join_words(open_sides(panes, find_index(names, name)))
        case _:
            return join_words(names)


def join_words(words):
    """Return words or numbers with single blanks between, or what stands for none."""
    return " ".join([str(word) for word in words]) or "-"
