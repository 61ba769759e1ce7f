"""Webs: places, marks on them, and arrows between them."""

from contraryrolls.errors import BadArrows, BadMarks, BadNames, BadNumber, BadOrder, BadWeb
from contraryrolls.words import are_ascending_names, is_ascending, is_between, is_integer, is_name, number_in

FEWEST_PLACES = 2
MOST_PLACES = 60
MOST_NAMES = 4


class Web:
    """The web with this text; raises BadWeb."""

    def __init__(self, text):
        places, marks, arrows = web_parts(text)
        self.text = text
        self.places = places
        self.marks = marks
        self.arrows = arrows
        # Kept because webs are asked often, and 3,600 pairs are long to look through.
        self._marked = {(name, place): True for name, told in marks for place in told}
        self._joined = {(name, one, other): True for name, told in arrows for one, other in told}

    def __eq__(self, other):
        return (isinstance(other, Web) and self.places == other.places
                and self.marks == other.marks and self.arrows == other.arrows)


def web_parts(text):
    """The places, marks and arrows that a text tells; raises BadWeb."""
    if not isinstance(text, str):
        raise BadWeb(0)
    lines = text.split("\n")
    places = places_line(lines[0].split(" "))
    if places is None:
        raise BadWeb(1)
    marks = {}
    arrows = {}
    for number, line in enumerate(lines[1:], start=2):
        if not keep_line(line.split(" "), places, marks, arrows):
            raise BadWeb(number)
    return places, tuple(sorted(marks.items())), tuple(sorted(arrows.items()))


def places_line(words):
    """How many places the first line tells; None if it is not as told."""
    if len(words) != 2 or words[0] != "places":
        return None
    places = number_in(words[1])
    return places if is_many_places(places) else None


def keep_line(words, places, marks, arrows):
    """Put what another line tells into marks or arrows; False if it is not as told."""
    if words[0] == "mark":
        kept, told = marks, tuple([number_in(word) for word in words[2:]])
        right = are_places(told, places)
    elif words[0] == "arrow":
        kept, told = arrows, tuple([pair_in(word) for word in words[2:]])
        right = are_pairs(told, places)
    else:
        return False
    if not right or len(words) < 2 or not is_name(words[1]):
        return False
    if words[1] in kept or len(kept) == MOST_NAMES:
        return False
    kept[words[1]] = told
    return True


def pair_in(word):
    """The numbers that a word of a text joins, -1 for each that is none."""
    return tuple([number_in(part) for part in word.split("-")])


def is_many_places(value):
    """Whether a web can have so many places."""
    return is_between(value, FEWEST_PLACES, MOST_PLACES)


def are_places(value, places):
    """Whether value is an ascending tuple of places of a web with so many."""
    if not isinstance(value, tuple):
        return False
    return all([is_between(place, 0, places - 1) for place in value]) and is_ascending(value)


def are_pairs(value, places):
    """Whether value is an ascending tuple of pairs of places of a web with so many."""
    if not isinstance(value, tuple):
        return False
    return all([is_pair(pair, places) for pair in value]) and is_ascending(value)


def is_pair(value, places):
    """Whether value is a pair of places of a web with so many."""
    if not isinstance(value, tuple) or len(value) != 2:
        return False
    return all([is_between(place, 0, places - 1) for place in value])


def names_told(value):
    """The first parts of a tuple of pairs; None if value is no such tuple."""
    if not isinstance(value, tuple):
        return None
    if not all([isinstance(part, tuple) and len(part) == 2 for part in value]):
        return None
    return tuple([name for name, _ in value])


def are_marks(value, places):
    """Whether value can be the marks of a web with so many places."""
    if not are_ascending_names(names_told(value), MOST_NAMES):
        return False
    return all([are_places(told, places) for _, told in value])


def are_arrows(value, places):
    """Whether value can be the arrows of a web with so many places."""
    if not are_ascending_names(names_told(value), MOST_NAMES):
        return False
    return all([are_pairs(told, places) for _, told in value])


def has_mark(web, name, place):
    """Whether the web has a mark of this name on this place; all may be asked for."""
    return isinstance(name, str) and is_integer(place) and (name, place) in web._marked


def has_arrow(web, name, one, other):
    """Whether the web has an arrow of this name from one to other; all may be asked for."""
    if not isinstance(name, str) or not is_integer(one) or not is_integer(other):
        return False
    return (name, one, other) in web._joined


def web_text(places, marks, arrows):
    """The text of the web with these places, marks and arrows."""
    if not is_many_places(places):
        raise BadNumber(places)
    if not are_marks(marks, places):
        raise BadMarks(marks)
    if not are_arrows(arrows, places):
        raise BadArrows(arrows)
    lines = [f"places {places}"]
    for name, told in marks:
        lines.append(" ".join(["mark", name] + [str(place) for place in told]))
    for name, told in arrows:
        lines.append(" ".join(["arrow", name] + [f"{one}-{other}" for one, other in told]))
    return "\n".join(lines)


def webs_many(places, marks, arrows):
    """How many webs have so many places and just these names."""
    if not is_many_places(places):
        raise BadNumber(places)
    if not are_ascending_names(marks, MOST_NAMES):
        raise BadNames(marks)
    if not are_ascending_names(arrows, MOST_NAMES):
        raise BadNames(arrows)
    return 1 << (len(marks) * places + len(arrows) * places * places)


def numbered_web(places, marks, arrows, number):
    """The web with this number among those with so many places and just these names."""
    if not is_between(number, 0, webs_many(places, marks, arrows) - 1):
        raise BadNumber(number)
    highest_first = f"{number:b}"
    figures = highest_first[::-1]
    marked = chosen(marks, list(range(places)), figures)
    joined = chosen(arrows, all_pairs(places), figures[len(marks) * places:])
    return Web(web_text(places, marked, joined))


def all_pairs(places):
    """All pairs of so many places, ascending."""
    return [(one, other) for one in range(places) for other in range(places)]


def chosen(names, spots, figures):
    """For each name those of the spots whose figure is 1; figures that are lacking are 0."""
    many = len(spots)
    told = []
    for at, name in enumerate(names):
        own = figures[at * many:(at + 1) * many]
        told.append((name, tuple([spot for spot, figure in zip(spots, own) if figure == "1"])))
    return tuple(told)


def web_number(web):
    """The number of the web among those with so many places and just its names."""
    pairs = all_pairs(web.places)
    figures = [has_mark(web, name, place) for name, _ in web.marks for place in range(web.places)]
    figures.extend([has_arrow(web, name, one, other) for name, _ in web.arrows for one, other in pairs])
    # The highest figure stands first in a number, and a web without names has no figures at all.
    return int("0" + "".join(["1" if figure else "0" for figure in reversed(figures)]), 2)


def moved_web(web, order):
    """The web in which order[p] is in the place of each place p."""
    if not is_order(order, web.places):
        raise BadOrder(order)
    marks = tuple([(name, tuple(sorted([order[place] for place in told]))) for name, told in web.marks])
    arrows = tuple([(name, tuple(sorted([(order[one], order[other]) for one, other in told])))
                    for name, told in web.arrows])
    return Web(web_text(web.places, marks, arrows))


def is_order(value, places):
    """Whether value is a tuple in which each of so many places stands once, and nothing else."""
    if not isinstance(value, tuple) or not all([is_integer(place) for place in value]):
        return False
    return sorted(value) == list(range(places))
