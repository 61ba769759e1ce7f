"""Rows that show that there is a way, or that there is none.

A way is walked. That there is none is shown by counting what can be come to, as contraries do:
let many be how many tuples of places are come to within less than most steps. Each tuple is
asked for, one after the other. Either a walk of at most most steps leads to it; or as many as
many walks of less steps are shown, each to a greater tuple than the one ahead of it, so to
all that there are, and what is asked for is none of them, nor does a step lead there from
one. So those within most steps are counted, too, until they grow no more.
"""

# The label of a row that refuses.
REFUSED = "refused"


def put_back(boxes):
    """What follows where boxes are used no more."""
    return [*[("set", box, 0) for box in boxes], ("leave", boxes)]


def rows_if_same(made, ones, others, goal):
    """The rows that go on to goal if the numbers in ones are those in others, otherwise behind them."""
    if len(ones) == 1:
        return [("same", ones[0], others[0], goal)]
    half, behind = made.fresh_labels(2)
    return [("same", ones[0], others[0], half), ("go", behind), ("label", half),
            ("same", ones[1], others[1], goal), ("label", behind)]


def rows_of_way(made, boxes, form, held):
    """The rows of a form `way` that is so."""
    used = boxes.use(2 * len(form[1]))
    walked, ahead = used[:len(form[1])], used[len(form[1]):]
    top, end = made.fresh_labels(2)
    return [
        *copied(walked, [held[name] for name in form[4]]),
        ("label", top),
        *rows_if_same(made, walked, [held[name] for name in form[5]], end),
        *rows_of_step(form, held, walked, ahead),
        ("go", top),
        ("label", end),
        *put_back(used)]


def copied(ones, others):
    """The rows that put the numbers of others into ones."""
    return [("put", one, other) for one, other in zip(ones, others)]


def rows_of_step(form, held, walked, ahead):
    """The rows of one step, which is taken from the roll and has to be one of the way."""
    return [*[("take", 1, box) for box in ahead], step_form(form, True, held, walked, ahead), *copied(walked, ahead)]


def step_form(form, so, held, ones, others):
    """The saying of the way about the step from what is in ones to what is in others."""
    here = {name: box for name, box in zip([*form[1], *form[2]], [*ones, *others])}
    return ("form", form[3], so, {**held, **here})


class Counting:
    """The boxes with which it is counted how many tuples are come to, and the labels of their rows."""

    def __init__(self, made, boxes, form):
        size = len(form[1])
        self.used = boxes.use(5 + 4 * size)
        self.many, self.more, self.most, self.steps, self.count = self.used[:5]
        places = self.used[5:]
        self.asked, self.walked = places[:size], places[size:2 * size]
        self.ahead, self.shown = places[2 * size:3 * size], places[3 * size:]
        self.ask, self.lacks, self.start, self.walk = made.fresh_labels(4)
        self.stop, self.found, self.later, self.last = made.fresh_labels(4)


def rows_of_no_way(made, boxes, form, held):
    """The rows of a form `way` that is not so."""
    one = Counting(made, boxes, form)
    return [
        ("up", one.many),
        ("up", one.most),
        *rows_of_asking(made, one, [held[name] for name in form[5]]),
        *rows_of_walk(one, form, held),
        *rows_of_showing(made, one),
        step_form(form, False, held, one.walked, one.asked),
        ("up", one.count),
        ("go", one.lacks),
        ("label", one.found),
        *rows_if_same(made, one.walked, one.asked, one.later),
        ("refuse",),
        *rows_of_next(made, one),
        *put_back(one.used)]


def rows_of_asking(made, one, ends):
    """The rows that begin with what is asked for: the walk to it, or the first of all walks to others.

    The end of the way must not be come to. Where one walk is enough, count is many already.
    """
    return [
        ("label", one.ask),
        ("either", one.lacks),
        *rows_if_same(made, one.asked, ends, REFUSED),
        ("up", one.more),
        ("put", one.count, one.many),
        ("go", one.start),
        ("label", one.lacks),
        ("same", one.count, one.many, one.later),
        ("up", one.steps)]


def rows_of_walk(one, form, held):
    """The rows of a walk; the one to what is asked for may have one step more, as it begins with steps at 0."""
    return [
        ("label", one.start),
        *copied(one.walked, [held[name] for name in form[4]]),
        ("label", one.walk),
        ("either", one.stop),
        ("same", one.steps, one.most, REFUSED),
        ("up", one.steps),
        *rows_of_step(form, held, one.walked, one.ahead),
        ("go", one.walk)]


def rows_of_showing(made, one):
    """The rows at the end of a walk: what is shown is greater than what was shown last, and not asked for."""
    greater, *sames = made.fresh_labels(1 + len(one.shown))
    rows = [("label", one.stop), *[("set", box, 0) for box in [one.steps, *one.ahead]],
            ("same", one.count, one.many, one.found), ("is", one.count, 0, greater)]
    for last, this, same in zip(one.shown, one.walked, sames):
        rows.extend([("less", last, this, greater), ("same", last, this, same), ("refuse",), ("label", same)])
    return [*rows, ("refuse",), ("label", greater), *copied(one.shown, one.walked),
            *rows_if_same(made, one.walked, one.asked, REFUSED)]


def rows_of_next(made, one):
    """The rows that go on to what is asked for next, to the next round, or behind the last one."""
    rows = [("label", one.later)]
    rows.extend([("set", box, 0) for box in [one.count, *one.walked, *one.shown]])
    for box, full in zip(one.asked[::-1], made.fresh_labels(len(one.asked))):
        rows.extend([("edge", 1, box, full), ("up", box), ("go", one.ask), ("label", full), ("set", box, 0)])
    rows.extend([("same", one.many, one.more, one.last), ("put", one.many, one.more), ("set", one.more, 0),
                 ("up", one.most), ("go", one.ask), ("label", one.last)])
    return rows
