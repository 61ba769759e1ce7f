"""Whether sayings are so of webs, and for which places."""

from contraryrolls.errors import BadPlaces, NotClosed
from contraryrolls.tables import orders_of, table_of
from contraryrolls.webrows import web_numbers
from contraryrolls.webs import numbered_web
from contraryrolls.words import is_between, number_of, powers


def holds(saying, web):
    """Whether the saying, which has no free names, is so of the web."""
    check_closed(saying)
    return table_of(saying, orders_of(saying), web) == 1


def check_closed(saying):
    """Raise NotClosed if the saying has free names."""
    if saying.names:
        raise NotClosed(saying.names)


def true_at(saying, web, places):
    """Whether the saying is so of the web if its free names stand for these places."""
    if not are_places_of(places, web, len(saying.names)):
        raise BadPlaces(places)
    many = powers(web.places, len(places))[-1]
    at = number_of(places, web.places)
    # The figure of the first tuple is the highest one.
    return (table_of(saying, orders_of(saying), web) >> (many - 1 - at)) & 1 == 1


def are_places_of(value, web, many):
    """Whether value is a tuple of so many places of the web."""
    if not isinstance(value, tuple) or len(value) != many:
        return False
    return all([is_between(place, 0, web.places - 1) for place in value])


def rows_of(saying, web):
    """The ascending tuple of the tuples of places for the free names for which the saying is so."""
    rows = [()]
    for _ in saying.names:
        rows = [(*row, place) for row in rows for place in range(web.places)]
    table = table_of(saying, orders_of(saying), web)
    figures = f"{table:b}"
    figures = figures.zfill(len(rows))
    return tuple([row for row, figure in zip(rows, figures) if figure == "1"])


def first_parting(one, other, places, marks, arrows):
    """The first web to so many places, with just these names, of which just one saying is so; None if none is."""
    check_closed(one)
    check_closed(other)
    numbers = web_numbers(places, marks, arrows)
    orders = orders_of(one)
    others = orders_of(other)
    for size, number in numbers:
        web = numbered_web(size, marks, arrows, number)
        if table_of(one, orders, web) != table_of(other, others, web):
            return web
    return None
