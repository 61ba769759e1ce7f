"""Going through all webs to a size: shared by the files that look at all of them."""

from contraryrolls.errors import TooMany
from contraryrolls.webs import FEWEST_PLACES, webs_many

MOST_WEBS = 4096


def web_numbers(places, marks, arrows):
    """The list of (how many places, number) of all webs to so many places; raises as webs_many, then TooMany."""
    webs_many(places, marks, arrows)
    told = []
    for size in range(FEWEST_PLACES, places + 1):
        many = webs_many(size, marks, arrows)
        if len(told) + many > MOST_WEBS:
            raise TooMany(MOST_WEBS)
        told.extend([(size, number) for number in range(many)])
    return told
