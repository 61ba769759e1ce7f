"""Making the texts of readers: shared by the files that make readers of readers, or of nothing."""

from contraryrolls.readers import FORMS, letters_for, PILE_FORMS

LETTERS = "abcdefghijklmnopqrstuvwxyz"


class RowList:
    """Rows that are put together one after the other, with labels where rows go on to.

    What stands for the number of a row in them is the label of that row, which may be put
    later; labels are strings or tuples.
    """

    def __init__(self):
        self.rows = []
        self.labels = {}
        self.number = 0

    def label(self, *names):
        """The row that is put next has these labels."""
        for name in names:
            self.labels[name] = len(self.rows)

    def fresh_labels(self, many):
        """The list of so many labels that nothing has yet."""
        first = self.number
        self.number += many
        return [("label", number) for number in range(first, self.number)]

    def put(self, *parts):
        """Put a row of these parts behind all others."""
        self.rows.append(parts)

    def told(self):
        """The list of the rows, with the numbers of rows instead of labels."""
        return [exchanged(row, "L", self.labels) for row in self.rows]

    def put_bounded(self, row, room, refused):
        """Put a row that is refused as in this room, also where the room of the made reader is greater."""
        if row[0] == "up":
            self.put("edge", room, row[1], refused)
        self.put(*row)
        if row[0] == "set":
            behind = ("behind", len(self.rows))
            self.put("within", room, row[1], behind)
            self.put("go", refused)
            self.label(behind)


def exchanged(row, letter, table):
    """The row with each part of this letter's kind exchanged as the table tells; what it lacks stays."""
    parts = [table.get(part, part) if kind == letter else part for kind, part in zip(kinds_of(row), row[1:])]
    return (row[0], *parts)


def parts_of(row, letter):
    """The parts of this letter's kind in a row, in their order."""
    return [part for kind, part in zip(kinds_of(row), row[1:]) if kind == letter]


def kinds_of(row):
    """The letters for the parts of a row of a reader or a pile reader."""
    letters = PILE_FORMS[row[0]] if row[0] in PILE_FORMS else FORMS[row[0]]
    return letters_for(letters, len(row) - 1)


def reader_text(room, boxes, rows):
    """The text of the reader with this room, these boxes and rows."""
    lines = [f"room {room}", " ".join(["boxes", *boxes])]
    lines.extend([" ".join([str(part) for part in row]) for row in rows])
    return "\n".join(lines)


def fresh_names(many, taken):
    """So many unlike names, none of them among those that are taken."""
    held = {name: True for name in taken}
    told = []
    at = 0
    while len(told) < many:
        name = counted_name(at)
        if name not in held:
            told.append(name)
        at += 1
    return told


def counted_name(number):
    """The name with this number: a, b, .., z, aa, ab and so on."""
    name = ""
    number += 1
    while number > 0:
        number -= 1
        name = LETTERS[number % 26] + name
        number = number // 26
    return name


class BoxList:
    """The boxes of a reader that is made: they are used for some time, and then again by others.

    None of them has one of the names that are held.
    """

    def __init__(self, held):
        self.held = {name: True for name in held}
        self.names = []
        self.unused = []
        self.number = 0

    def use(self, many):
        """The list of so many boxes, which nobody else uses until they are left."""
        told = []
        while len(told) < many:
            told.append(self.unused.pop() if self.unused else self.fresh_box())
        return told

    def leave(self, boxes):
        """These boxes are not used any more, and have 0 again."""
        self.unused.extend(list(boxes)[::-1])

    def fresh_box(self):
        """A box that has not been used before."""
        name = counted_name(self.number)
        self.number += 1
        while name in self.held:
            name = counted_name(self.number)
            self.number += 1
        self.names.append(name)
        return name
