"""Readers of sayings: they let just those webs of which the saying is so."""

from contraryrolls.errors import NotClosed, TooGreat
from contraryrolls.formrows import put_form
from contraryrolls.readers import Reader
from contraryrolls.rowlists import BoxList, reader_text, RowList
from contraryrolls.sayings import inner_forms
from contraryrolls.wayrows import REFUSED

MOST_WORDS = 40
MOST_DEPTH = 2

# So all numbers fit that are counted, which are those of pairs of places at most.
ROOM = 3


def reader_of(saying):
    """The reader that lets a web by some roll exactly if the saying is so of it."""
    check_shown(saying)
    made = RowList()
    boxes = BoxList(())
    put_form(made, boxes, saying.tree, True, {})
    made.put("let")
    made.label(REFUSED)
    made.put("refuse")
    return Reader(reader_text(ROOM, boxes.names, made.told()))


def check_shown(saying):
    """Raise NotClosed or TooGreat if there is no reader of this saying."""
    if saying.names:
        raise NotClosed(saying.names)
    if len(saying) > MOST_WORDS:
        raise TooGreat("words")
    if counting_depth(saying) > MOST_DEPTH:
        raise TooGreat("depth")


def counting_depth(saying):
    """How many forms way and even stand within one another at most."""
    deepest = 0
    waiting = [(saying.tree, 0)]
    while waiting:
        form, depth = waiting.pop()
        if form[0] in ("way", "even"):
            depth += 1
        deepest = max(deepest, depth)
        waiting.extend([(inner, depth) for inner in inner_forms(form)])
    return deepest
