"""Rows that show that a form of a saying is so, or that it is not.

A reader that comes to them goes on behind them by some signs exactly if that is so; by all
others it is refused. Each box that they use has 0 ahead of them, and behind them again, so it
can be used by others.
"""

from contraryrolls.wayrows import put_back, REFUSED, rows_of_no_way, rows_of_way


def put_form(made, boxes, form, so, held):
    """Put the rows for this form being so, or not; held tells the box of each name that is bound or free."""
    # What is left to be put, the next one last: rows, labels, forms, and boxes that are left.
    waiting = [("form", form, so, held)]
    while waiting:
        task = waiting.pop()
        if task[0] == "form":
            make = MAKERS[task[1][0]]
            waiting.extend(make(made, boxes, task[1], task[2], task[3])[::-1])
        elif task[0] == "label":
            made.label(task[1])
        elif task[0] == "leave":
            boxes.leave(task[1])
        else:
            made.put(*task)


def rows_of_test(made, boxes, form, so, held):
    """The rows of a form in which no other one is."""
    word = form[0]
    if word in ("mark", "arrow"):
        test = [word, form[1], *[held[name] for name in form[2:]]]
    elif word == "first":
        test = ["is", held[form[1]], 0]
    elif word == "last":
        test = ["edge", 1, held[form[1]]]
    else:
        test = [word, held[form[1]], held[form[2]]]
    if not so:
        return [(*test, REFUSED)]
    end = made.fresh_labels(1)[0]
    return [(*test, end), ("refuse",), ("label", end)]


def rows_of_not(made, boxes, form, so, held):
    """The rows of a form `not`."""
    return [("form", form[1], not so, held)]


def rows_of_join(made, boxes, form, so, held):
    """The rows of a form `and`, `or`."""
    if (form[0] == "and") == so:
        return [("form", part, so, held) for part in form[1:]]
    *others, end = made.fresh_labels(len(form) - 1)
    told = []
    for part, other in zip(form[1:-1], others):
        told.extend([("either", other), ("form", part, so, held), ("go", end), ("label", other)])
    return [*told, ("form", form[-1], so, held), ("label", end)]


def rows_of_quantifier(made, boxes, form, so, held):
    """The rows of a form `some`, `all`."""
    used = boxes.use(1)
    inner = ("form", form[2], so, {**held, form[1]: used[0]})
    if (form[0] == "some") == so:
        return [("take", 1, used[0]), inner, *put_back(used)]
    return [*for_all_places(made, used[0], [inner]), *put_back(used)]


def for_all_places(made, box, rows):
    """The rows that do these for all places, one after the other, in the box."""
    top, end = made.fresh_labels(2)
    return [("label", top), *rows, ("edge", 1, box, end), ("up", box), ("go", top), ("label", end)]


def rows_of_many(made, boxes, form, so, held):
    """The rows of a form `many`: so many places are shown, or less than so many are not."""
    used = boxes.use(2)
    box, count = used
    inner = ("form", form[3], so, {**held, form[2]: box})
    top, skip, end = made.fresh_labels(3)
    if so:
        rows = [("label", top), ("either", skip), inner, ("up", count), ("is", count, form[1], end), ("label", skip),
                ("edge", 1, box, REFUSED), ("up", box), ("go", top), ("label", end)]
    else:
        rows = for_all_places(made, box, [
            ("either", skip), inner, ("go", end), ("label", skip), ("up", count), ("is", count, form[1], REFUSED),
            ("label", end)])
    return [*rows, *put_back(used)]


def rows_of_even(made, boxes, form, so, held):
    """The rows of a form `even`: of each place it is shown whether it is one of those that are counted."""
    used = boxes.use(2)
    box, odd = used
    here = {**held, form[1]: box}
    counted, even, end = made.fresh_labels(3)
    rows = for_all_places(made, box, [
        ("either", counted), ("form", form[2], False, here), ("go", end),
        ("label", counted), ("form", form[2], True, here), ("is", odd, 1, even), ("up", odd), ("go", end),
        ("label", even), ("set", odd, 0), ("label", end)])
    return [*rows, ("is", odd, 1 if so else 0, REFUSED), *put_back(used)]


def rows_of_steps(made, boxes, form, so, held):
    """The rows of a form `way`."""
    make = rows_of_way if so else rows_of_no_way
    return make(made, boxes, form, held)


MAKERS = {
    "arrow": rows_of_test,
    "mark": rows_of_test,
    "same": rows_of_test,
    "less": rows_of_test,
    "first": rows_of_test,
    "last": rows_of_test,
    "not": rows_of_not,
    "and": rows_of_join,
    "or": rows_of_join,
    "some": rows_of_quantifier,
    "all": rows_of_quantifier,
    "many": rows_of_many,
    "even": rows_of_even,
    "way": rows_of_steps,
}
