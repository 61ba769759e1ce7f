"""Readers for the contrary: they let a web exactly if another reader lets it by no roll.

They count. Let many be how many standings the other reader comes to within so many steps. The
roll shows walks of at most so many steps, each to a standing greater than the one ahead of it.
When there are as many as there have to be, all have been shown; and a standing at which none
of them is, and to which none of them leads, is not come to by one step more either. In this
manner all standings are asked for, one after the other, and those that are come to by one step
more are counted: that is many of the next round. When it grows no more, all that are come to
have been counted, and none of them was one that lets.
"""

from contraryrolls.errors import BadName, TooGreat
from contraryrolls.readers import Reader
from contraryrolls.rowlists import exchanged, reader_text, RowList
from contraryrolls.words import is_name

MOST_ROWS = 12
MOST_BOXES = 3
MOST_ROOM = 3

# Where the standing is that is asked for, that a walk is at, that was shown last: first the
# number of its row, then those of its boxes.
ASKED = ("asked", "askeda", "askedb", "askedc")
WALKED = ("walked", "walkeda", "walkedb", "walkedc")
SHOWN = ("shown", "showna", "shownb", "shownc")

# How many there are, how many there are by one step more, of how many steps, how many of them
# the walk has made, how many standings have been shown.
COUNTERS = ("many", "more", "most", "steps", "count")

TESTS = ("same", "less", "is", "within", "edge", "mark", "arrow")


def contrary(reader):
    """The reader that lets a web by some roll exactly if this reader lets it by none."""
    check_size(reader)
    many = 1 + len(reader.boxes)
    asked, walked, shown = ASKED[:many], WALKED[:many], SHOWN[:many]
    made = RowList()
    put_beginning(made, walked[1:])
    put_walks(made, reader, walked)
    put_showing(made, walked, shown)
    put_look_at_it(made, asked, walked)
    put_looks_from_it(made, reader, asked, walked)
    put_answers(made, [*shown, *walked], [("is", asked[0], row) for row in rows_that_let(reader)])
    put_next_asked(made, reader, asked)
    put_end_of_round(made)
    # So no number grows too great: there are less than 2 ** figures rows.
    figures = len(reader.rows).bit_length()
    boxes = [*COUNTERS, *asked, *walked, *shown]
    return Reader(reader_text((many - 1) * reader.room + figures, boxes, made.told()))


def check_size(reader):
    """Raise TooGreat if no contrary is made of this reader."""
    if len(reader.rows) > MOST_ROWS:
        raise TooGreat("rows")
    if len(reader.boxes) > MOST_BOXES:
        raise TooGreat("boxes")
    if reader.room > MOST_ROOM:
        raise TooGreat("room")


def rows_that_let(reader):
    """The numbers of the rows `let`."""
    return [row for row, parts in enumerate(reader.rows) if parts[0] == "let"]


def put_beginning(made, walked):
    """The first round begins, and then each walk, unless the roll tells that all have been shown."""
    made.put("up", "many")
    made.label("walk")
    made.put("either", "done")
    for box in walked:
        made.put("set", box, 0)


def put_one_step_more(made, stop):
    """A walk stops if the roll tells so; otherwise it may make one step more."""
    made.put("either", stop)
    made.put("same", "steps", "most", "refused")
    made.put("up", "steps")


def put_walks(made, reader, walked):
    """Walks are made by the rows of the reader itself."""
    table = {old: new for old, new in zip(reader.boxes, walked[1:])}
    labels = {row: ("row", row) for row in range(len(reader.rows))}
    for row, parts in enumerate(reader.rows):
        made.label(("row", row))
        put_one_step_more(made, ("stop", row))
        parts = exchanged(exchanged(parts, "B", table), "L", labels)
        made.put_bounded(("refuse",) if parts[0] == "let" else parts, reader.room, "refused")
    made.label("refused")
    made.put("refuse")
    for row in range(len(reader.rows)):
        made.label(("stop", row))
        made.put("set", walked[0], row)
        made.put("go", "stop")


def put_showing(made, walked, shown):
    """What a walk is at when it stops is shown; it has to be greater than what was shown last."""
    made.label("stop")
    made.put("set", "steps", 0)
    made.put("is", "count", 0, "greater")
    for at, (one, other) in enumerate(zip(shown, walked)):
        made.put("less", one, other, "greater")
        made.put("same", one, other, ("compare", at))
        made.put("refuse")
        made.label(("compare", at))
    made.put("refuse")
    made.label("greater")
    for one, other in zip(shown, walked):
        made.put("put", one, other)
    made.put("up", "count")


def put_look_at_it(made, asked, walked):
    """It is found if it is the one that is asked for."""
    put_tests(made, "it", [("same", one, other) for one, other in zip(asked, walked)], "behind")
    made.label("behind")


def put_tests(made, name, tests, otherwise):
    """Found if all tests, which are rows without the row on to which they lead, are so; name is that of labels."""
    for at, test in enumerate(tests):
        made.put(*test, (name, "so", at))
        made.put("go", otherwise)
        made.label((name, "so", at))
    made.put("go", "found")


def put_looks_from_it(made, reader, asked, walked):
    """It is found if one step leads from what is shown to the one that is asked for."""
    for row in range(len(reader.rows)):
        made.put("is", walked[0], row, ("from", row))
    for row in range(len(reader.rows)):
        made.label(("from", row))
        put_look_from_row(made, reader, row, asked, walked)
    made.label("boxes")
    put_tests(made, "boxes", [("same", one, other) for one, other in zip(asked[1:], walked[1:])], "walk")


def put_look_from_row(made, reader, row, asked, walked):
    """The look from what is at this row."""
    table = {old: new for old, new in zip(reader.boxes, walked[1:])}
    parts = exchanged(reader.rows[row], "B", table)
    word = parts[0]
    behind = [row + 1] if row + 1 < len(reader.rows) else []
    if word == "go":
        put_rows_behind(made, [parts[1]], asked[0], "boxes")
    elif word == "either":
        put_rows_behind(made, [*behind, parts[1]], asked[0], "boxes")
    elif word in TESTS:
        test = parts[:-1]
        made.put(*test, ("so", row))
        put_rows_behind(made, behind, asked[0], "boxes")
        made.label(("so", row))
        put_rows_behind(made, [parts[-1]], asked[0], "boxes")
    elif word == "let" or word == "refuse":
        made.put("go", "walk")
    else:
        put_rows_behind(made, behind, asked[0], ("changed", row))
        made.label(("changed", row))
        if word == "up":
            made.put("up", parts[1])
        put_tests(made, ("changed", row), tests_of_change(parts, asked, walked), "walk")


def put_rows_behind(made, rows, asked, then):
    """On with then if the row that is asked for is one of these."""
    for row in rows:
        made.put("is", asked, row, then)
    made.put("go", "walk")


def tests_of_change(parts, asked, walked):
    """The tests for all boxes behind a row that changes a number; what `up` changes is changed already."""
    box = parts[2] if parts[0] == "take" else parts[1]
    tests = []
    for one, other in zip(asked[1:], walked[1:]):
        if other != box or parts[0] == "up":
            tests.append(("same", one, other))
        elif parts[0] == "take":
            tests.append(("within", parts[1], one))
        elif parts[0] == "set":
            tests.append(("is", one, parts[2]))
        else:
            tests.append(("same", one, parts[2]))
    return tests


def put_answers(made, boxes, fatal):
    """Behind one that is asked for: it is counted if it is found, but nothing is let if a fatal test is so of it."""
    made.label("done")
    made.put("same", "count", "many", "next")
    made.put("refuse")
    made.label("found")
    for test in fatal:
        made.put(*test, "refused")
    made.put("up", "more")
    made.label("next")
    for box in ["count", *boxes]:
        made.put("set", box, 0)


def put_next_asked(made, reader, asked):
    """The next standing is asked for, the numbers of the boxes being figures of a number."""
    for box in asked[1:]:
        made.put("edge", reader.room, box, ("full", box))
        made.put("up", box)
        made.put("go", "walk")
        made.label(("full", box))
        made.put("set", box, 0)
    made.put("is", asked[0], len(reader.rows) - 1, "end")
    made.put("up", asked[0])
    made.put("go", "walk")
    made.label("end")
    made.put("set", asked[0], 0)


def put_end_of_round(made):
    """Behind the last one that is asked for: the web is let if there are no more than before."""
    made.put("same", "many", "more", "let")
    made.put("put", "many", "more")
    made.put("set", "more", 0)
    made.put("up", "most")
    made.put("go", "walk")
    made.label("let")
    made.put("let")


def way_reader(name):
    """The reader that lets a web exactly if a way along these arrows leads from the first place to the last."""
    if not is_name(name):
        raise BadName(name)
    made = RowList()
    made.label("walk")
    made.put("take", 1, "next")
    made.put("arrow", name, "walked", "next", "on")
    made.put("refuse")
    made.label("on")
    made.put("put", "walked", "next")
    made.put("edge", 1, "walked", "let")
    made.put("go", "walk")
    made.label("let")
    made.put("let")
    return Reader(reader_text(1, ["walked", "next"], made.told()))


def no_way_reader(name):
    """The reader that lets a web exactly if no such way does."""
    if not is_name(name):
        raise BadName(name)
    made = RowList()
    put_beginning(made, ["walked"])
    made.label("row")
    put_one_step_more(made, "stop")
    made.put("take", 1, "next")
    made.put("arrow", name, "walked", "next", "on")
    made.label("refused")
    made.put("refuse")
    made.label("on")
    made.put("put", "walked", "next")
    made.put("go", "row")
    put_showing(made, ["walked"], ["shown"])
    made.put("same", "walked", "asked", "found")
    made.put("arrow", name, "walked", "asked", "found")
    made.put("go", "walk")
    put_answers(made, ["walked", "next", "shown"], [("edge", 1, "asked")])
    made.put("edge", 1, "asked", "end")
    made.put("up", "asked")
    made.put("go", "walk")
    made.label("end")
    made.put("set", "asked", 0)
    put_end_of_round(made)
    # There may be as many as there are places, which no place is.
    return Reader(reader_text(2, [*COUNTERS, "asked", "walked", "shown", "next"], made.told()))
