"""A pile reader that looks for ways by halving them."""

from contraryrolls.errors import BadName
from contraryrolls.piles import PileReader
from contraryrolls.rowlists import reader_text, RowList
from contraryrolls.words import is_name

# Whether a way leads from one place to another, how deep in halves of ways that is asked, and
# the place in the middle that is tried; how deep it is when an arrow is enough; how many arrows
# there are at least then, and the same again, and what is counted for a moment.
BOXES = ("from", "to", "depth", "middle", "deepest", "arrows", "again", "counted", "found")
KEPT = ("from", "to", "middle", "depth")


def halves_reader(name):
    """The pile reader that lets a web exactly if a way, of none or more of these arrows, leads to its last place."""
    if not is_name(name):
        raise BadName(name)
    made = RowList()
    put_beginning(made)
    put_asking(made, name)
    return PileReader(reader_text(2, BOXES, made.told()))


def put_beginning(made):
    """Put the rows that reckon how deep to go, and ask for the way to the last place.

    So often a way is halved until it has one arrow at most that 2 ** deepest is at least the
    number of the last place, which no shortest way has more arrows than.
    """
    made.put("up", "arrows")
    made.label("enough")
    made.put("edge", 1, "arrows", "last")
    made.put("within", 1, "arrows", "doubled")
    made.put("go", "last")
    made.label("doubled")
    made.put("put", "again", "arrows")
    made.put("set", "counted", 0)
    made.label("add")
    made.put("same", "counted", "again", "more")
    made.put("up", "counted")
    made.put("up", "arrows")
    made.put("go", "add")
    made.label("more")
    made.put("up", "deepest")
    made.put("go", "enough")
    made.label("last")
    made.put("edge", 1, "to", "begin")
    made.put("up", "to")
    made.put("go", "last")
    made.label("begin")
    made.put("call", "ask")
    made.put("is", "found", 1, "let")
    made.put("refuse")
    made.label("let")
    made.put("let")


def put_asking(made, name):
    """Put the rows that ask for one way; found is 1 behind them if there is one, otherwise 0."""
    made.label("ask")
    made.put("same", "depth", "deepest", "short")
    made.put("set", "middle", 0)
    made.label("try")
    made.put("call", "first", *KEPT)
    made.put("is", "found", 0, "other")
    made.put("call", "second", *KEPT)
    made.put("is", "found", 1, "told")
    made.label("other")
    made.put("edge", 1, "middle", "told")
    made.put("up", "middle")
    made.put("go", "try")
    made.label("first")
    made.put("put", "to", "middle")
    made.put("up", "depth")
    made.put("go", "ask")
    made.label("second")
    made.put("put", "from", "middle")
    made.put("up", "depth")
    made.put("go", "ask")
    made.label("short")
    made.put("set", "found", 1)
    made.put("same", "from", "to", "told")
    made.put("arrow", name, "from", "to", "told")
    made.put("set", "found", 0)
    made.label("told")
    made.put("back")
