"""Rows of readers that are led back along a making.

What the reader asks of the made web is asked of the web itself: the roll tells whether the
saying of the making is so, and shows it. There are rows for each saying only once; a box
keeps which row has asked.
"""

from contraryrolls.formrows import put_form
from contraryrolls.makings import sayings_of
from contraryrolls.readers import Reader
from contraryrolls.rowlists import BoxList, exchanged, reader_text, RowList
from contraryrolls.shown import ROOM
from contraryrolls.wayrows import REFUSED


class LedRows:
    """Makes the reader that is led back."""

    def __init__(self, making, reader):
        self.wide = making.wide
        self.reader = reader
        self.sayings = sayings_of(making)
        # For each saying the numbers of the rows that ask for it.
        self.asking = {key: [] for key in self.sayings}
        self.rowlist = RowList()
        self.boxes = BoxList(reader.boxes)
        self.asked = self.boxes.use(2)
        self.row = self.boxes.use(1)[0]

    def reader_made(self):
        """The reader with all rows."""
        made = self.rowlist
        labels = {row: ("row", row) for row in range(len(self.reader.rows))}
        for row, parts in enumerate(self.reader.rows):
            made.label(("row", row))
            parts = exchanged(parts, "L", labels)
            if parts[0] in ("mark", "arrow"):
                self.put_question(row, parts)
            else:
                self.put_plain(parts)
        made.label(REFUSED)
        made.put("refuse")
        for key, rows in self.asking.items():
            if rows:
                self.put_answer(key)
        boxes = [*self.reader.boxes, *self.boxes.names]
        return Reader(reader_text(self.room_needed(), boxes, made.told()))

    def room_needed(self):
        """The room: that of the reader, and so great that the numbers fit that the rows for sayings need."""
        most = max([len(rows) - 1 for rows in self.asking.values()], default=0)
        return max(self.wide * self.reader.room, ROOM, most.bit_length())

    def put_plain(self, parts):
        """Put a row that does not ask for marks or arrows; what was Q places of the made web is more of this one."""
        if parts[0] in ("take", "within", "edge"):
            parts = (parts[0], self.wide * parts[1], *parts[2:])
        self.rowlist.put_bounded(parts, self.wide * self.reader.room, REFUSED)

    def put_question(self, row, parts):
        """Put the rows that ask whether a mark or an arrow is there: it is not unless all are places."""
        made, key = self.rowlist, parts[:2]
        behind = made.fresh_labels(1)[0]
        if key in self.sayings:
            for box in parts[2:-1]:
                inside = made.fresh_labels(1)[0]
                made.put("within", self.wide, box, inside)
                made.put("go", behind)
                made.label(inside)
            for one, other in zip(self.asked, parts[2:-1]):
                made.put("put", one, other)
            made.put("set", self.row, len(self.asking[key]))
            made.put("go", key)
            made.label((row, True))
            made.put("set", self.row, 0)
            made.put("go", parts[-1])
            made.label((row, False))
            made.put("set", self.row, 0)
            self.asking[key].append(row)
        made.label(behind)

    def put_answer(self, key):
        """Put the rows that show whether a saying is so, and go back behind the row that asked."""
        made, saying = self.rowlist, self.sayings[key]
        asked = self.asked[:len(saying.names) // self.wide]
        used = self.boxes.use(2 * len(asked)) if self.wide == 2 else []
        made.label(key)
        for at, box in enumerate(used[::2]):
            self.put_figures(asked[at], box, used[2 * at + 1])
        held = {name: box for name, box in zip(saying.names, used or asked)}
        denied = made.fresh_labels(1)[0]
        made.put("either", denied)
        self.put_way_back(key, True, held)
        made.label(denied)
        self.put_way_back(key, False, held)
        self.boxes.leave(used)

    def put_way_back(self, key, so, held):
        """Put the rows that show that the saying is so, or not, and go back."""
        made = self.rowlist
        put_form(made, self.boxes, self.sayings[key].tree, so, held)
        for box in held.values():
            made.put("set", box, 0)
        *rows, last = self.asking[key]
        for at, row in enumerate(rows):
            made.put("is", self.row, at, (row, so))
        made.put("go", (last, so))

    def put_figures(self, asked, high, low):
        """Put the rows that count the figures of a place of the made web, and leave its box."""
        made = self.rowlist
        count = self.boxes.use(1)[0]
        top, full, end = made.fresh_labels(3)
        made.label(top)
        made.put("same", count, asked, end)
        made.put("up", count)
        made.put("edge", 1, low, full)
        made.put("up", low)
        made.put("go", top)
        made.label(full)
        made.put("set", low, 0)
        made.put("up", high)
        made.put("go", top)
        made.label(end)
        made.put("set", count, 0)
        made.put("set", asked, 0)
        self.boxes.leave([count])
