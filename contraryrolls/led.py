"""Sayings, readers and rolls that are led back along makings, to the webs of which others are made."""

from contraryrolls.courses import CHANGE, Course, LET, TAKE
from contraryrolls.errors import NotLed, NotSo
from contraryrolls.formsigns import FormSigns
from contraryrolls.ledforms import led_tokens
from contraryrolls.ledrows import LedRows
from contraryrolls.makings import made, sayings_of
from contraryrolls.plays import roll_of
from contraryrolls.sayings import inner_forms, Saying
from contraryrolls.tokens import text_of
from contraryrolls.truths import check_closed
from contraryrolls.words import number_of


def led(making, saying):
    """The saying that is so of a web exactly if this one is so of the made web; raises NotClosed, NotLed, TooGreat."""
    check_closed(saying)
    if making.wide == 2:
        check_led(saying)
    return Saying(text_of(led_tokens(making, saying)))


def check_led(saying):
    """Raise NotLed if there is a form in the saying that cannot be led back to pairs."""
    waiting = [saying.tree]
    while waiting:
        form = waiting.pop()
        if form[0] in ("many", "even") or (form[0] == "way" and len(form[1]) == 2):
            raise NotLed(form[0])
        waiting.extend(inner_forms(form)[::-1])


def led_reader(making, reader):
    """A reader that lets a web exactly if this one lets the made web."""
    return LedRows(making, reader).reader_made()


def led_roll(making, reader, web):
    """A roll by which the led reader lets the web; raises TooGreat, NotSo."""
    other = made(making, web)
    roll = roll_of(reader, other)
    if roll is None:
        raise NotSo(web)
    writer = LedSigns(making, web, other.places)
    told = []
    for sign, parts, places in signs_and_questions(reader, other, roll):
        if sign is not None:
            told.append(sign)
        else:
            told.extend(writer.answer(parts, places))
    return tuple(told)


def signs_and_questions(reader, web, roll):
    """What a reader does by a roll that lets the web.

    The list of (sign, None, None) for each sign that it takes, and (None, row, numbers) for each
    row that it comes to that asks for a mark or an arrow, numbers being those in its boxes.
    """
    course = Course(reader, web)
    deeds, spots = course.deeds, course.spots
    numbers = list(course.first_numbers())
    told = []
    row = 0
    taken = 0
    while True:
        kind, step, _ = deeds[row] or course.made(row)
        if kind == LET:
            return told
        if kind <= CHANGE:
            parts = reader.rows[row]
            if parts[0] in ("mark", "arrow"):
                told.append((None, parts, [numbers[spots[box]] for box in parts[2:-1]]))
            row = step(numbers)
        else:
            sign = roll[taken]
            taken += 1
            told.append((sign, None, None))
            if kind == TAKE:
                numbers[step] = sign
            row = step if kind != TAKE and sign == 1 else row + 1


class LedSigns:
    """Writes the signs by which a led reader answers for itself what was asked of the made web."""

    def __init__(self, making, web, places):
        self.sayings = sayings_of(making)
        self.web = web
        self.places = places
        self.writers = {}

    def answer(self, parts, numbers):
        """The tuple of the signs for a row `mark` or `arrow`, these numbers being in its boxes."""
        key = parts[:2]
        if key not in self.sayings or max(numbers) >= self.places:
            return ()
        if key not in self.writers:
            self.writers[key] = FormSigns(self.sayings[key], self.web)
        writer = self.writers[key]
        number = number_of(numbers, self.places)
        so = writer.says(number)
        return (0 if so else 1, *writer.saying_signs(so, number))
