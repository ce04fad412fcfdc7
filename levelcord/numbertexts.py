"""Numbers as they are written: the top, and, where the bottom isn't 1, a stroke and the bottom."""

from levelcord.errors import NoText
from levelcord.numbers import is_number

FIGURES = "0123456789"


def show_number(one):
    """Writes a number."""
    top, bottom = one
    return str(top) if bottom == 1 else f"{top}/{bottom}"


def are_figures(text):
    """Tells whether a text is made of figures, at least one."""
    # not isdigit: it takes figures of other scripts, too
    return text != "" and all([sign in FIGURES for sign in text])


def read_number(text):
    """Reads a number; what is written otherwise, or is no text, is refused with NoText."""
    if not isinstance(text, str):
        raise NoText(None)
    top, stroke, bottom = text.partition("/")
    if not stroke:
        bottom = "1"
    if not are_figures(top.removeprefix("-")) or not are_figures(bottom):
        raise NoText(None)
    read = (int(top), int(bottom))
    # each number has one writing alone, so noughts ahead, -0 and a bottom of 1 show by writing it again
    if not is_number(read) or show_number(read) != text:
        raise NoText(None)
    return read
