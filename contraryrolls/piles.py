"""Readers with a pile: they read no roll, and put numbers of rows and of boxes aside."""

from contraryrolls.courses import CHANGE, Course, LET
from contraryrolls.errors import BadNumber
from contraryrolls.readers import FORMS, PILE_FORMS, reader_parts
from contraryrolls.words import is_between

MOST_STEPS = 1000000

NOT_THERE = ("take", "either")


class PileReader:
    """The pile reader with this text; raises BadReader."""

    def __init__(self, text):
        forms = {word: letters for word, letters in FORMS.items() if word not in NOT_THERE}
        forms.update(dict(PILE_FORMS))
        room, boxes, rows = reader_parts(text, forms)
        self.text = text
        self.room = room
        self.boxes = boxes
        self.rows = rows

    def __eq__(self, other):
        return isinstance(other, PileReader) and self.text == other.text


class Pile:
    """What a pile reader has put aside: for each call the row behind it, its boxes and their numbers."""

    def __init__(self, spots):
        self.spots = spots
        self.calls = []
        self.deepest = 0

    def keep(self, row, names, numbers):
        """Put a call on the pile."""
        boxes = [self.spots[name] for name in names]
        self.calls.append((row, [(box, numbers[box]) for box in boxes]))
        self.deepest = max(self.deepest, len(self.calls))

    def give_back(self, numbers):
        """Take the last call off, its boxes having their numbers again; the row that comes next."""
        row, kept = self.calls.pop()
        for box, number in kept:
            numbers[box] = number
        return row


def run_pile(reader, web, most):
    """How the pile reader ends on the web within so many steps, if it does."""
    if not is_between(most, 0, MOST_STEPS):
        raise BadNumber(most)
    course = Course(reader, web)
    rows, deeds, many, numbers = reader.rows, course.deeds, course.many, list(course.first_numbers())
    pile = Pile(course.spots)
    row = 0
    steps = 0
    # A row that is refused leads on behind all rows.
    while row < many:
        if steps == most:
            return "more", most, pile.deepest
        steps += 1
        word = rows[row][0]
        if word == "call":
            pile.keep(row + 1, rows[row][2:], numbers)
            row = rows[row][1]
        elif word == "back":
            row = pile.give_back(numbers) if pile.calls else many
        else:
            kind, step, _ = deeds[row] or course.made(row)
            if kind > CHANGE:
                return "let" if kind == LET else "refused", steps, pile.deepest
            row = step(numbers)
    return "refused", steps, pile.deepest
