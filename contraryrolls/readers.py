"""Readers: texts of rows, which a roll is read by."""

from contraryrolls.errors import BadReader
from contraryrolls.words import is_name, number_in

MOST_ROOM = 20
MOST_BOXES = 120
MOST_ROWS = 40000
MOST_NUMBER = 999999999

# What stands behind the word of a row: B is a box, N any name, K a number, Q a number up to
# the room, L the number of a row, and M, at the end, none or more boxes.
FORMS = {
    "take": "QB",
    "either": "L",
    "same": "BBL",
    "less": "BBL",
    "is": "BKL",
    "within": "QBL",
    "edge": "QBL",
    "mark": "NBL",
    "arrow": "NBBL",
    "set": "BK",
    "put": "BB",
    "up": "B",
    "go": "L",
    "let": "",
    "refuse": "",
}

# What pile readers have besides.
PILE_FORMS = {"call": "LM", "back": ""}


class Reader:
    """The reader with this text; raises BadReader."""

    def __init__(self, text):
        room, boxes, rows = reader_parts(text, dict(FORMS))
        self.text = text
        self.room = room
        self.boxes = boxes
        self.rows = rows

    def __eq__(self, other):
        return isinstance(other, Reader) and self.text == other.text

    def __len__(self):
        return len(self.rows)


def reader_parts(text, forms):
    """The room, boxes and rows of a text whose rows have these forms; raises BadReader."""
    if not isinstance(text, str):
        raise BadReader(0)
    lines = text.split("\n")
    room = room_line(lines[0].split(" "))
    if room is None:
        raise BadReader(1)
    boxes = None if len(lines) < 2 else boxes_line(lines[1].split(" "))
    if boxes is None:
        raise BadReader(2)
    if len(lines) < 3:
        raise BadReader(3)
    return room, boxes, row_lines(lines[2:], forms, room, boxes)


def room_line(words):
    """The room that the first line tells; None if it is not as told."""
    if len(words) != 2 or words[0] != "room":
        return None
    room = number_in(words[1])
    return room if 1 <= room <= MOST_ROOM else None


def boxes_line(words):
    """The names of the boxes that the second line tells; None if it is not as told."""
    names = tuple(words[1:])
    if words[0] != "boxes" or len(names) > MOST_BOXES:
        return None
    if not all([is_name(name) for name in names]) or len(set(names)) < len(names):
        return None
    return names


def row_lines(lines, forms, room, boxes):
    """The tuple of the rows in these lines, which begin with line 3 of a text."""
    held = {name: True for name in boxes}
    greatest = {"K": MOST_NUMBER, "Q": room, "L": len(lines) - 1}
    rows = []
    for number, line in enumerate(lines):
        row = row_line(line.split(" "), forms, held, greatest)
        if row is None or number == MOST_ROWS:
            raise BadReader(number + 3)
        rows.append(row)
    return tuple(rows)


def row_line(words, forms, held, greatest):
    """The row with these words, its numbers as integers; None if it is not as told."""
    if words[0] not in forms:
        return None
    letters = letters_for(forms[words[0]], len(words) - 1)
    if len(letters) != len(words) - 1:
        return None
    parts = [row_part(letter, word, held, greatest) for letter, word in zip(letters, words[1:])]
    return None if None in parts else (words[0], *parts)


def letters_for(letters, many):
    """The letters of a form, one for each of so many parts if there can be as many."""
    if not letters.endswith("M"):
        return letters
    return letters[:-1] + "B" * (many + 1 - len(letters))


def row_part(letter, word, held, greatest):
    """What a word behind the first one of a row tells; None if it is not what the letter asks for."""
    if letter == "B":
        return word if word in held else None
    if letter == "N":
        return word if is_name(word) else None
    number = number_in(word)
    return number if 0 <= number <= greatest[letter] else None
