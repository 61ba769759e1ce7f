"""What becomes of a web by a roll, which webs a reader lets, and by which rolls."""

from contraryrolls.courses import CHANGE, Course, LET, next_standings, TAKE, with_number
from contraryrolls.errors import BadNumber, BadRoll
from contraryrolls.searches import LETS, Search
from contraryrolls.words import is_between, is_roll

MOST_STEPS = 1000
MOST_LENGTH = 200


class Rounds:
    """Tells when a reader that takes no sign comes to what it was at before.

    Only one standing is kept, and it is exchanged ever more seldom: what comes round comes
    to the kept one at some time, however long its round is.
    """

    def __init__(self):
        self.row = -1
        self.numbers = []
        self.span = 1
        self.left = 1

    def closes(self, row, numbers):
        """Whether the kept standing is come to again."""
        if row == self.row and numbers == self.numbers:
            return True
        self.left -= 1
        if self.left == 0:
            self.row = row
            self.numbers = list(numbers)
            self.span *= 2
            self.left = self.span
        return False


def play(reader, web, roll):
    """What becomes of the web by this roll."""
    if not is_roll(roll):
        raise BadRoll(roll)
    course = Course(reader, web)
    deeds, many, numbers = course.deeds, course.many, list(course.first_numbers())
    rounds = Rounds()
    row = 0
    taken = 0
    while row < many:
        kind, step, bound = deeds[row] or course.made(row)
        if kind <= CHANGE:
            after = step(numbers)
            if after > many:
                return "refused", row
            # Each round goes back somewhere.
            if after <= row and rounds.closes(after, numbers):
                return ("round",)
            row = after
            continue
        if kind >= LET:
            return ("let", taken) if kind == LET else ("refused", row)
        if taken == len(roll):
            return "ended", row
        sign = roll[taken]
        if sign >= bound:
            return "refused", row
        taken += 1
        rounds = Rounds()
        if kind == TAKE:
            numbers[step] = sign
        row = step if kind != TAKE and sign == 1 else row + 1
    return "refused", many


def lets_web(reader, web):
    """Whether the reader lets the web by some roll."""
    return LETS in Search(reader, web).ends


def standings_many(reader, web):
    """How many standings the reader comes to on the web."""
    return len(Search(reader, web).seen)


def roll_of(reader, web):
    """A roll of the fewest signs by which the reader lets the web; None if there is none."""
    search = Search(reader, web)
    if LETS not in search.ends:
        return None
    return search.signs_ahead(search.ends.index(LETS))


def within_steps(reader, web, steps):
    """How many standings the reader comes to within 0, 1, .., steps steps."""
    if not is_between(steps, 0, MOST_STEPS):
        raise BadNumber(steps)
    # Raises where there are too many to be gone through.
    Search(reader, web)
    course = Course(reader, web)
    first = (0, course.first_numbers())
    seen = {first: True}
    taken = {}
    front = [first]
    told = [1]
    for _ in range(steps):
        fresh = {}
        for standing in front:
            if not is_taken(course, standing, taken):
                for _, after in next_standings(course, standing):
                    if after not in seen:
                        seen[after] = True
                        fresh[after] = True
        front = list(fresh)
        told.append(len(seen))
    return tuple(told)


def is_taken(course, standing, taken):
    """Whether the steps from a row `take` have been gone before: they hang on all other boxes only."""
    row, numbers = standing
    kind, step, _ = course.deeds[row] or course.made(row)
    if kind != TAKE:
        return False
    key = (row, with_number(numbers, step, 0))
    if key in taken:
        return True
    taken[key] = True
    return False


def rolls_many(reader, web, length):
    """By how many rolls of just so many signs the reader lets the web, having taken all of them."""
    if not is_between(length, 0, MOST_LENGTH):
        raise BadNumber(length)
    search = Search(reader, web)
    tallies = search.tallies()
    rolls = {search.ends[0]: 1}
    for _ in range(length):
        longer = {}
        for end, many in rolls.items():
            if end >= 0:
                for after, times in tallies[end].items():
                    longer[after] = longer.get(after, 0) + many * times
        rolls = longer
    return rolls.get(LETS, 0)
