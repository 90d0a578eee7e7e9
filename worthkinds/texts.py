"""Worths as texts."""

from worthkinds.counting import count_of, worth_at
from worthkinds.errors import NoText
from worthkinds.kinds import need_kind, need_worth


def worth_text(kind, worth):
    need_worth(kind, worth)
    return worth_written(worth)


def read_worth(kind, text):
    need_kind(kind)
    need_text(text)
    return worth_in(kind, text)


def need_text(thing):
    if not isinstance(thing, str):
        raise NoText("this is no text")


def worth_written(worth):
    if isinstance(worth, tuple):
        return "(" + " ".join([worth_written(part) for part in worth]) + ")"
    return str(worth)


# The kind leads through the text: so the descent ends, however many brackets there are.
def worth_in(kind, text):
    if kind[0] == "row":
        return parts_in(kind[1], pieces_of_tuple(text))
    if kind[0] == "many":
        return many_in(kind, pieces_of_tuple(text))
    return single_in(kind, text)


def single_in(kind, text):
    # Written and compared: Python would also read noughts ahead, blanks and more as a number.
    for number in range(count_of(kind)):
        worth = worth_at(kind, number)
        if worth_written(worth) == text:
            return worth
    raise NoText("no number or word of the kind is written so")


def many_in(kind, pieces):
    if not kind[2] <= len(pieces) <= kind[3]:
        raise NoText("no tuple of the kind is as long")
    return parts_in([kind[1]] * len(pieces), pieces)


def parts_in(kinds, pieces):
    if len(kinds) != len(pieces):
        raise NoText("no tuple of the kind is as long")
    return tuple([worth_in(kind, piece) for kind, piece in zip(kinds, pieces)])


def pieces_of_tuple(text):
    inner = text_inside(text, "(", ")")
    return pieces_between(inner, " ") if inner != "" else []


def text_inside(text, opening, closing):
    if not text.startswith(opening) or not text.endswith(closing):
        raise NoText("the brackets are missing")
    return text[len(opening):-len(closing)]


# The pieces, with the mark between each two, are the text again: so it is left to
# those who read the pieces to refuse brackets that are not closed, or closed twice.
def pieces_between(text, mark):
    pieces = []
    begin = 0
    depth = 0
    for place, sign in enumerate(text):
        if sign in "([{":
            depth = depth + 1
        if sign in ")]}":
            depth = depth - 1
        if depth == 0 and text.startswith(mark, place):
            pieces.append(text[begin:place])
            begin = place + len(mark)
    pieces.append(text[begin:])
    return pieces
