"""Which webs readers let, and whether two readers let the same ones, or just the other ones."""

from contraryrolls.plays import lets_web
from contraryrolls.webs import numbered_web
from contraryrolls.webrows import web_numbers


def letting_webs(reader, places, marks, arrows):
    """The tuple of (how many places, number) of all these webs that the reader lets."""
    return tuple([(size, number) for size, number in web_numbers(places, marks, arrows)
                  if lets_web(reader, numbered_web(size, marks, arrows, number))])


def alike(one, other, places, marks, arrows):
    """Whether each of these webs is let by both readers or by none; if not, the first one that is not."""
    for size, number in web_numbers(places, marks, arrows):
        web = numbered_web(size, marks, arrows, number)
        first = lets_web(one, web)
        if first != lets_web(other, web):
            return "parts", web, "one" if first else "other"
    return ("alike",)


def opposed(one, other, places, marks, arrows):
    """Whether each of these webs is let by just one of the readers; if not, the first one that is not."""
    for size, number in web_numbers(places, marks, arrows):
        web = numbered_web(size, marks, arrows, number)
        first = lets_web(one, web)
        if first == lets_web(other, web):
            return "parts", web, "both" if first else "neither"
    return ("opposed",)
