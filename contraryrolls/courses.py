"""What each row of a reader does on one web: shared by what plays, and what searches."""

from contraryrolls.words import powers

# The kinds of deeds. Those up to CHANGE take no sign and lead on; those from LET on end.
TEST = 0
CHANGE = 1
TAKE = 2
EITHER = 3
LET = 4
REFUSE = 5


class Course:
    """The rows of a reader on a web, each of them made into a deed when it is first come to.

    A deed is (kind, step, bound). For TEST and CHANGE step is a function of the list of all
    numbers, which returns the row that comes next, or refused. For TAKE it is the box, for
    EITHER the row of the sign 1, and signs have to be below bound.
    """

    def __init__(self, reader, web):
        self.rows = reader.rows
        self.many = len(reader.rows)
        # No row has this number, nor is it the one behind the last row.
        self.refused = self.many + 1
        self.powers = powers(web.places, reader.room)
        self.spots = {name: at for at, name in enumerate(reader.boxes)}
        self.marks = {name: {place: True for place in told} for name, told in web.marks}
        self.arrows = {name: {pair: True for pair in told} for name, told in web.arrows}
        self.deeds = [None] * self.many

    def first_numbers(self):
        """The tuple of the numbers in all boxes at the beginning."""
        return (0,) * len(self.spots)

    def made(self, row):
        """The deed of a row that has not been come to before."""
        word = self.rows[row][0]
        if word == "let" or word == "refuse":
            deed = (LET if word == "let" else REFUSE, None, 0)
        elif word == "take":
            deed = (TAKE, self.spots[self.rows[row][2]], self.powers[self.rows[row][1]])
        elif word == "either":
            deed = (EITHER, self.rows[row][1], 2)
        else:
            make = MAKERS[word]
            deed = (CHANGE if word in CHANGING else TEST, make(self, self.rows[row], row + 1), 0)
        self.deeds[row] = deed
        return deed


def make_same(course, parts, below):
    """The step of a row `same`."""
    one, other, goal = course.spots[parts[1]], course.spots[parts[2]], parts[3]
    return lambda numbers: goal if numbers[one] == numbers[other] else below


def make_less(course, parts, below):
    """The step of a row `less`."""
    one, other, goal = course.spots[parts[1]], course.spots[parts[2]], parts[3]
    return lambda numbers: goal if numbers[one] < numbers[other] else below


def make_is(course, parts, below):
    """The step of a row `is`."""
    box, number, goal = course.spots[parts[1]], parts[2], parts[3]
    return lambda numbers: goal if numbers[box] == number else below


def make_within(course, parts, below):
    """The step of a row `within`."""
    bound, box, goal = course.powers[parts[1]], course.spots[parts[2]], parts[3]
    return lambda numbers: goal if numbers[box] < bound else below


def make_edge(course, parts, below):
    """The step of a row `edge`."""
    greatest, box, goal = course.powers[parts[1]] - 1, course.spots[parts[2]], parts[3]
    return lambda numbers: goal if numbers[box] == greatest else below


def make_mark(course, parts, below):
    """The step of a row `mark`."""
    held, box, goal = course.marks.get(parts[1], {}), course.spots[parts[2]], parts[3]
    return lambda numbers: goal if numbers[box] in held else below


def make_arrow(course, parts, below):
    """The step of a row `arrow`."""
    held, goal = course.arrows.get(parts[1], {}), parts[4]
    one, other = course.spots[parts[2]], course.spots[parts[3]]
    return lambda numbers: goal if (numbers[one], numbers[other]) in held else below


def make_go(course, parts, below):
    """The step of a row `go`."""
    goal = parts[1]
    return lambda numbers: goal


def make_set(course, parts, below):
    """The step of a row `set`."""
    box, number = course.spots[parts[1]], parts[2]
    after = below if number < course.powers[-1] else course.refused

    def step(numbers):
        numbers[box] = number
        return after
    return step


def make_put(course, parts, below):
    """The step of a row `put`."""
    box, source = course.spots[parts[1]], course.spots[parts[2]]

    def step(numbers):
        numbers[box] = numbers[source]
        return below
    return step


def make_up(course, parts, below):
    """The step of a row `up`."""
    box, greatest, refused = course.spots[parts[1]], course.powers[-1] - 1, course.refused

    def step(numbers):
        if numbers[box] == greatest:
            return refused
        numbers[box] += 1
        return below
    return step


CHANGING = ("set", "put", "up")
MAKERS = {
    "same": make_same,
    "less": make_less,
    "is": make_is,
    "within": make_within,
    "edge": make_edge,
    "mark": make_mark,
    "arrow": make_arrow,
    "go": make_go,
    "set": make_set,
    "put": make_put,
    "up": make_up,
}


def with_number(numbers, box, number):
    """The tuple of numbers with another one in this box."""
    return numbers[:box] + (number,) + numbers[box + 1:]


def next_standings(course, standing):
    """The pairs (sign, standing) that one step leads to; the sign is None if none is taken."""
    row, numbers = standing
    kind, step, bound = course.deeds[row] or course.made(row)
    if kind == TAKE:
        told = [(sign, (row + 1, with_number(numbers, step, sign))) for sign in range(bound)]
    elif kind == EITHER:
        told = [(0, (row + 1, numbers)), (1, (step, numbers))]
    elif kind == CHANGE:
        fresh = list(numbers)
        after = step(fresh)
        told = [(None, (after, tuple(fresh)))]
    else:
        told = [] if kind >= LET else [(None, (step(numbers), numbers))]
    return [(sign, (after, fresh)) for sign, (after, fresh) in told if after < course.many]
