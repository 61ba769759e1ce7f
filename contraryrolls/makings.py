"""Makings, which make of each web another one."""

from contraryrolls.errors import BadMaking, BadNames, BadSaying, TooGreat
from contraryrolls.sayings import Saying
from contraryrolls.truths import rows_of
from contraryrolls.webs import MOST_NAMES, MOST_PLACES, Web, web_text
from contraryrolls.words import is_name, number_of, powers

WIDTHS = {"wide 1": 1, "wide 2": 2}


class Making:
    """The making with this text; raises BadMaking."""

    def __init__(self, text):
        if not isinstance(text, str):
            raise BadMaking(0)
        first, *lines = text.split("\n")
        if first not in WIDTHS:
            raise BadMaking(1)
        held = {"mark": {}, "arrow": {}}
        for number, line in enumerate(lines, start=2):
            told = told_line(line, WIDTHS[first])
            if told is None or told[1] in held[told[0]] or len(held[told[0]]) == MOST_NAMES:
                raise BadMaking(number)
            held[told[0]][told[1]] = told[2]
        self.text = text
        self.wide = WIDTHS[first]
        self.marks = in_order(held["mark"])
        self.arrows = in_order(held["arrow"])

    def __eq__(self, other):
        return isinstance(other, Making) and self.text == other.text


def in_order(told):
    """The tuple of the pairs of a dict, ascending by its keys."""
    return tuple([(name, told[name]) for name in sorted(told)])


def told_line(line, wide):
    """The word, the name and the saying that a line tells; None if it is not as told."""
    words = line.split(" ")
    if words[0] not in ("mark", "arrow") or len(words) < 2 or not is_name(words[1]):
        return None
    many = wide if words[0] == "mark" else 2 * wide
    brackets = " ".join(words[2:2 + many])
    names = brackets.replace("(", "").replace(")", "").split(" ")
    if brackets != " ".join([bracket(names[at:at + wide]) for at in range(0, many, wide)]):
        return None
    try:
        saying = Saying(" ".join(words[2 + many:]), tuple(names))
    except (BadNames, BadSaying, TooGreat):
        return None
    return words[0], words[1], saying


def bracket(names):
    """The text of a bracket with these names."""
    return f"({' '.join(names)})"


def sayings_of(making):
    """The sayings of a making by the word and the name of what they tell, as forms begin with them."""
    told = {("mark", name): saying for name, saying in making.marks}
    for name, saying in making.arrows:
        told[("arrow", name)] = saying
    return told


def made(making, web):
    """The web that the making makes of this one; raises TooGreat."""
    base = powers(web.places, making.wide)[-1]
    if base > MOST_PLACES:
        raise TooGreat(MOST_PLACES)
    marks = [(name, made_places(saying, web)) for name, saying in making.marks]
    arrows = [(name, made_pairs(saying, web, base)) for name, saying in making.arrows]
    return Web(web_text(base, tuple(marks), tuple(arrows)))


def made_places(saying, web):
    """The tuple of the made places of which the saying is so."""
    return tuple([number_of(row, web.places) for row in rows_of(saying, web)])


def made_pairs(saying, web, base):
    """The tuple of the pairs of made places, of which there are base, of which the saying is so."""
    return tuple([(number // base, number % base) for number in made_places(saying, web)])
