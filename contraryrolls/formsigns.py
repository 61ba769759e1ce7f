"""The signs by which a reader goes on behind the rows for a form of a saying."""

from contraryrolls.tables import orders_of, tables_of
from contraryrolls.waysigns import no_way_signs, way_signs
from contraryrolls.words import powers


class FormSigns:
    """Writes signs for the forms of one saying on one web.

    A form is told by its number, which is that of its order, and what stands for the names
    that are bound or free at its place by a number, the places being figures of it.
    """

    def __init__(self, saying, web):
        self.orders = orders_of(saying)
        self.places = web.places
        self.powers = powers(web.places, saying.width)
        tables = tables_of(saying, self.orders, web)
        self.figures = [figures_of(table, self.powers[order.size]) for order, table in zip(self.orders, tables)]

    def is_so(self, form, number):
        """Whether the form is so of these places."""
        return self.figures[form][number] == "1"

    def says(self, number):
        """Whether the whole saying is so of these places."""
        return self.is_so(-1, number)

    def saying_signs(self, so, number):
        """The tuple of the signs for the whole saying, which is so of these places, or not so."""
        return self.form_signs(-1, so, number)

    def form_signs(self, form, so, number):
        """The tuple of the signs for a form, which is so of these places, or not so."""
        told = []
        # Signs, and forms, what is told next last.
        waiting = [(form, so, number)]
        while waiting:
            one = waiting.pop()
            if isinstance(one, tuple):
                order = self.orders[one[0]]
                make = MAKERS[order.word]
                waiting.extend(make(self, order, one[1], one[2])[::-1])
            else:
                told.append(one)
        return tuple(told)


def figures_of(table, many):
    """The figures of a table for so many tuples of places, the first one first."""
    figures = f"{table:b}"
    return figures.zfill(many)


def signs_of_test(writer, order, so, number):
    """No signs: a form in which no other one is shows itself."""
    return []


def signs_of_not(writer, order, so, number):
    """What is told for `not`."""
    return [(order.inner[0], not so, number)]


def signs_of_join(writer, order, so, number):
    """What is told for `and`, `or`: all forms in it, or the first one that decides."""
    if (order.word == "and") == so:
        return [(inner, so, number) for inner in order.inner]
    at = [writer.is_so(inner, number) for inner in order.inner].index(so)
    ends = [] if at == len(order.inner) - 1 else [0]
    return [*[1] * at, *ends, (order.inner[at], so, number)]


def signs_of_quantifier(writer, order, so, number):
    """What is told for `some`, `all`: all places, or the first one that decides."""
    inner = order.inner[0]
    first = number * writer.places
    if (order.word == "some") != so:
        return [(inner, so, first + place) for place in range(writer.places)]
    place = [writer.is_so(inner, first + place) for place in range(writer.places)].index(so)
    return [place, (inner, so, first + place)]


def signs_of_many(writer, order, so, number):
    """What is told for `many`: for places up to the one that is enough, or for all."""
    inner = order.inner[0]
    first = number * writer.places
    told = []
    left = order.many if so else writer.places
    for place in range(writer.places):
        if left == 0:
            break
        if writer.is_so(inner, first + place) == so:
            told.extend([0, (inner, so, first + place)])
            left -= 1
        else:
            told.append(1)
    return told


def signs_of_even(writer, order, so, number):
    """What is told for `even`: for each place whether it is counted."""
    inner = order.inner[0]
    told = []
    for place in range(writer.places):
        counted = writer.is_so(inner, number * writer.places + place)
        told.extend([1 if counted else 0, (inner, counted, number * writer.places + place)])
    return told


def signs_of_steps(writer, order, so, number):
    """What is told for `way`."""
    make = way_signs if so else no_way_signs
    return make(writer, order, number)


MAKERS = {
    "arrow": signs_of_test,
    "mark": signs_of_test,
    "same": signs_of_test,
    "less": signs_of_test,
    "first": signs_of_test,
    "last": signs_of_test,
    "not": signs_of_not,
    "and": signs_of_join,
    "or": signs_of_join,
    "some": signs_of_quantifier,
    "all": signs_of_quantifier,
    "many": signs_of_many,
    "even": signs_of_even,
    "way": signs_of_steps,
}
