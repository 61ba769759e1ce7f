"""For which places a saying is so, all places being gone through together.

A table tells for each tuple of so many places whether something is so: it is an integer, whose
binary figures are those of the tuples in ascending order, the first one highest.
"""

from contraryrolls.sayings import inner_forms
from contraryrolls.webs import has_arrow, has_mark
from contraryrolls.words import powers

BINDING = ("some", "all", "even")


class Order:
    """One form of a saying, to be reckoned behind those in it.

    size is how many names are bound or free at its place; word its word, name that of its mark
    or arrow; at where its names stand among those; many how many forms are in it, its K, or
    how many names a bracket of it has; inner the numbers of the orders for the forms in it.
    """

    def __init__(self, form, scope):
        self.inner = []
        self.word = form[0]
        self.size = len(scope)
        self.name = form[1] if form[0] in ("mark", "arrow") else ""
        self.at = [scope.index(name) for name in names_asked(form)]
        self.many = many_of(form)


def names_asked(form):
    """The names of places in a form that it does not bind, without those in sayings in it."""
    if form[0] in ("mark", "arrow"):
        return form[2:]
    if form[0] in ("same", "less", "first", "last"):
        return form[1:]
    return form[4] + form[5] if form[0] == "way" else ()


def many_of(form):
    """How many forms are in a form, its K, or how many names a bracket of it has."""
    if form[0] == "many":
        return form[1]
    return len(form[1]) if form[0] == "way" else len(form) - 1


def names_bound(form):
    """The tuple of the names that a form binds."""
    if form[0] == "way":
        return form[1] + form[2]
    if form[0] == "many":
        return (form[2],)
    return (form[1],) if form[0] in BINDING else ()


def orders_of(saying):
    """The list of the orders for a saying, each form behind all forms in it."""
    waiting = [(saying.tree, saying.names, None)]
    orders = []
    while waiting:
        form, scope, outer = waiting.pop()
        order = Order(form, scope)
        if outer is not None:
            outer.inner.append(len(orders))
        orders.append(order)
        inside = scope + names_bound(form)
        waiting.extend([(inner, inside, order) for inner in inner_forms(form)])
    for order in orders:
        # The numbers, as those of the forms, go the other way about in the end.
        order.inner = [len(orders) - 1 - at for at in order.inner[::-1]]
    return orders[::-1]


def table_of(saying, orders, web):
    """The table of the places for the free names of a saying for which it is so."""
    return tables_of(saying, orders, web)[-1]


def tables_of(saying, orders, web):
    """The list of the tables for all orders of a saying."""
    tables = Tables(web, saying.width)
    done = []
    for order in orders:
        inner = [done[at] for at in order.inner]
        if order.word in ("and", "or", "not"):
            done.append(tables.joined(order, inner))
        elif order.word in BINDING or order.word == "many":
            done.append(tables.counted(order, inner[0]))
        elif order.word == "way":
            done.append(tables.led(order, inner[0]))
        else:
            done.append(tables.tested(order))
    return done


def turned_rows(rows):
    """The rows of figures that have the columns of these rows."""
    return ["".join([row[at] for row in rows]) for at in range(len(rows))]


class Tables:
    """Makes tables for one web."""

    def __init__(self, web, width):
        self.web = web
        self.sizes = powers(web.places, width)
        self.rows = {}
        self.kept = {}

    def full(self, size):
        """The table in which all is so."""
        return (1 << self.sizes[size]) - 1

    def of_place(self, size, at, held):
        """The table in which it hangs on the place at this position; held are the figures of all places."""
        text = "".join([figure * self.sizes[size - 1 - at] for figure in held])
        return int(text * self.sizes[at], 2)

    def of_pair(self, size, one, other, rows):
        """The table in which it hangs on the places at two positions; rows has the figures for each of the first."""
        if one == other:
            return self.of_place(size, one, [row[at] for at, row in enumerate(rows)])
        if one > other:
            return self.of_pair(size, other, one, turned_rows(rows))
        blocks = []
        for row in rows:
            block = "".join([figure * self.sizes[size - 1 - other] for figure in row])
            blocks.append(block * self.sizes[other - one - 1])
        return int("".join(blocks) * self.sizes[one], 2)

    def tested(self, order):
        """The table of a form in which no other one is."""
        key = (order.word, order.name, order.size, *order.at)
        if key not in self.kept:
            rows = self.figures_for(order.word, order.name)
            if len(order.at) == 1:
                self.kept[key] = self.of_place(order.size, order.at[0], rows[0])
            else:
                self.kept[key] = self.of_pair(order.size, order.at[0], order.at[1], rows)
        return self.kept[key]

    def figures_for(self, word, name):
        """For each place, or only once, the figures of all places for which it is so."""
        key = (word, name)
        if key not in self.rows:
            places = range(self.web.places)
            if word in ("mark", "first", "last"):
                rows = [[self.so_of(word, name, place) for place in places]]
            else:
                rows = [[self.so_of_two(word, name, one, other) for other in places] for one in places]
            self.rows[key] = ["".join(["1" if so else "0" for so in row]) for row in rows]
        return self.rows[key]

    def so_of(self, word, name, place):
        """Whether the form with this word is so of one place."""
        if word == "mark":
            return has_mark(self.web, name, place)
        return place == (0 if word == "first" else self.web.places - 1)

    def so_of_two(self, word, name, one, other):
        """Whether the form with this word is so of two places."""
        if word == "arrow":
            return has_arrow(self.web, name, one, other)
        return one == other if word == "same" else one < other

    def joined(self, order, inner):
        """The table of not, and, or."""
        table = inner[0]
        for other in inner[1:]:
            table = table & other if order.word == "and" else table | other
        return self.full(order.size) ^ table if order.word == "not" else table

    def figures_of(self, table, size):
        """The figures of a table, those at its beginning, too, that are 0."""
        figures = f"{table:b}"
        return figures.zfill(self.sizes[size])

    def columns(self, table, size, many):
        """So many tables: what this one tells of each of the last so many tuples of places."""
        figures = self.figures_of(table, size)
        return [int(figures[at::many], 2) for at in range(many)]

    def counted(self, order, inner):
        """The table of some, all, many, even."""
        full = self.full(order.size)
        columns = self.columns(inner, order.size + 1, self.web.places)
        if order.word == "even":
            even = full
            for column in columns:
                even = even ^ column
            return even
        # at_least[k]: for which tuples it is so of k places or more, of those gone through.
        wanted = order.many if order.word == "many" else 1
        if order.word == "all":
            wanted = self.web.places
        at_least = [full] + [0] * wanted
        for column in columns:
            for k in range(wanted, 0, -1):
                at_least[k] = at_least[k] | (at_least[k - 1] & column)
        return at_least[wanted]

    def led(self, order, inner):
        """The table of way: which tuples are come to, for all others at once."""
        nodes = self.sizes[order.many]
        steps = self.columns(inner, order.size + 2 * order.many, nodes * nodes)
        come_to = self.standing_for(order.size, order.at[:order.many])
        waiting = [node for node in range(nodes) if come_to[node]]
        while waiting:
            one = waiting.pop()
            for other in range(nodes):
                new = come_to[one] & steps[one * nodes + other] & ~come_to[other]
                if new:
                    come_to[other] = come_to[other] | new
                    if other not in waiting:
                        waiting.append(other)
        table = 0
        for come, end in zip(come_to, self.standing_for(order.size, order.at[order.many:])):
            table = table | (come & end)
        return table

    def standing_for(self, size, at):
        """For each tuple of one or two places the table: whether the names at these positions stand for it."""
        places = self.web.places
        told = []
        for place in range(places):
            held = ["1" if place == other else "0" for other in range(places)]
            told.append(self.of_place(size, at[0], held))
        if len(at) == 2:
            others = self.standing_for(size, at[1:])
            told = [one & other for one in told for other in others]
        return told
