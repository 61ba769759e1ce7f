"""Readers without the rows and boxes that are not needed, and readers of the same form."""

from contraryrolls.readers import FORMS, Reader
from contraryrolls.rowlists import exchanged, parts_of, reader_text

# Behind these rows a reader does not go on with the row below.
LEADING_AWAY = ("go", "let", "refuse")


def led_rows(reader):
    """The ascending tuple of the numbers of all rows that are led to."""
    led = {0: True}
    waiting = [0]
    while waiting:
        row = waiting.pop()
        for after in rows_behind(reader.rows, row):
            if after not in led:
                led[after] = True
                waiting.append(after)
    return tuple(sorted(led))


def rows_behind(rows, row):
    """The numbers of the rows on to which this one may go."""
    told = parts_of(rows[row], "L")
    if rows[row][0] not in LEADING_AWAY and row + 1 < len(rows):
        told.append(row + 1)
    return told


def lesser(reader):
    """The reader with just the rows that are led to, and the boxes that one of these names."""
    led = led_rows(reader)
    places = {row: at for at, row in enumerate(led)}
    rows = [exchanged(reader.rows[row], "L", places) for row in led]
    named = {box: True for row in rows for box in parts_of(row, "B")}
    boxes = [box for box in reader.boxes if box in named]
    return Reader(reader_text(reader.room, boxes, rows))


def same_form(one, other):
    """Whether both readers, made lesser, differ in nothing but the names of their boxes."""
    rows = lesser(one).rows
    others = lesser(other).rows
    if one.room != other.room or len(rows) != len(others):
        return False
    there = {}
    back = {}
    return all([same_row(row, like, there, back) for row, like in zip(rows, others)])


def same_row(row, like, there, back):
    """Whether both rows are the same if boxes are named as told there; boxes that are new are told now."""
    if row[0] != like[0]:
        return False
    for kind, part, other in zip(FORMS[row[0]], row[1:], like[1:]):
        if kind == "B":
            if there.setdefault(part, other) != other or back.setdefault(other, part) != part:
                return False
        elif part != other:
            return False
    return True
