"""Readers made of one reader or of two."""

from contraryrolls.errors import BadNames, BadNumber, BadPairs, TooGreat
from contraryrolls.readers import MOST_ROOM, Reader
from contraryrolls.rowlists import exchanged, fresh_names, reader_text, RowList
from contraryrolls.words import are_unlike_names, is_between, is_name

MOST_BOXES_TOGETHER = 110
MOST_ROWS_TOGETHER = 4900


def renamed(reader, names):
    """The reader whose boxes have these names instead."""
    if not are_unlike_names(names) or len(names) != len(reader.boxes):
        raise BadNames(names)
    table = {box: name for box, name in zip(reader.boxes, names)}
    return Reader(reader_text(reader.room, names, [exchanged(row, "B", table) for row in reader.rows]))


def named_anew(reader, pairs):
    """The reader that asks for marks and arrows of other names, as the pairs tell."""
    if not are_pairs_of_names(pairs):
        raise BadPairs(pairs)
    table = {old: new for old, new in pairs}
    rows = [exchanged(row, "N", table) for row in reader.rows]
    return Reader(reader_text(reader.room, reader.boxes, rows))


def are_pairs_of_names(value):
    """Whether value is a tuple of pairs of names, no two with the same first one."""
    if not isinstance(value, tuple):
        return False
    if not all([isinstance(pair, tuple) and len(pair) == 2 for pair in value]):
        return False
    return are_unlike_names(tuple([old for old, _ in value])) and all([is_name(new) for _, new in value])


def turned(reader):
    """The reader that goes the other way along each arrow."""
    rows = [(row[0], row[1], row[3], row[2], row[4]) if row[0] == "arrow" else row for row in reader.rows]
    return Reader(reader_text(reader.room, reader.boxes, rows))


def roomed(reader, room):
    """The reader with this room that lets each web by the same rolls."""
    if not is_between(room, reader.room, MOST_ROOM):
        raise BadNumber(room)
    made = RowList()
    put_reader(made, reader, reader.boxes, "row", ("let",))
    return Reader(reader_text(room, reader.boxes, made.told()))


def put_reader(made, reader, boxes, word, last):
    """Put the rows of a reader into a list of rows, as they are in a room that may be greater.

    Its boxes have other names there, its rows the labels (word, number), and the row last
    stands in the stead of each `let`.
    """
    table = {old: new for old, new in zip(reader.boxes, boxes)}
    labels = {number: (word, number) for number in range(len(reader.rows))}
    refused = (word, "refused")
    for number, row in enumerate(reader.rows):
        made.label((word, number))
        row = exchanged(exchanged(row, "B", table), "L", labels)
        made.put_bounded(last if row[0] == "let" else row, reader.room, refused)
    made.label(refused)
    made.put("refuse")


def both(one, other):
    """The reader that lets a web by some roll exactly if both do by some roll."""
    check_sizes(one, other)
    boxes = unlike_boxes(one, other)
    made = RowList()
    put_reader(made, one, one.boxes, "one", ("go", ("other", 0)))
    put_reader(made, other, boxes, "other", ("let",))
    return Reader(reader_text(max(one.room, other.room), [*one.boxes, *boxes], made.told()))


def either_of(one, other):
    """The reader that lets a web by some roll exactly if at least one of both does by some roll."""
    check_sizes(one, other)
    boxes = unlike_boxes(one, other)
    made = RowList()
    made.put("either", ("other", 0))
    put_reader(made, one, one.boxes, "one", ("let",))
    put_reader(made, other, boxes, "other", ("let",))
    return Reader(reader_text(max(one.room, other.room), [*one.boxes, *boxes], made.told()))


def check_sizes(one, other):
    """Raise TooGreat if both readers are too great to be joined."""
    boxes = len(one.boxes) + len(other.boxes)
    if boxes > MOST_BOXES_TOGETHER:
        raise TooGreat(boxes)
    rows = len(one.rows) + len(other.rows)
    if rows > MOST_ROWS_TOGETHER:
        raise TooGreat(rows)


def unlike_boxes(one, other):
    """Names for the boxes of the other reader, none of which the one has: their own where they can be kept."""
    held = {name: True for name in one.boxes}
    fresh = fresh_names(len(other.boxes), one.boxes + other.boxes)
    return [new if old in held else old for old, new in zip(other.boxes, fresh)]
