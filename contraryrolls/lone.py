"""Webs whose ways are lone ones, and readers that let these by one roll alone."""

from contraryrolls.errors import BadName, BadWord, NotLone, NotSo
from contraryrolls.readers import Reader
from contraryrolls.roads import Roads
from contraryrolls.rowlists import reader_text, RowList
from contraryrolls.webs import has_arrow
from contraryrolls.words import is_integer, is_name

WORDS = ("way", "noway")

# How many places are within so many steps, and how many steps lead to all of them together;
# the same of one step more; how many steps that is; the place that is asked for; the place of
# which the roll tells whether it is within them; how many are, and how many steps lead there;
# where the road to it is, and goes on; whether a step leads to what is asked for, and whether
# that is within so many steps itself; and what is counted for a moment.
BOXES = ("many", "sum", "more", "longer", "most", "asked", "other", "count", "total", "walked", "next", "led", "old",
         "added")

# What the roll tells of each place: a road follows, or none.
ON = 0
OUT = 1


def check_name(arrow):
    """Raise BadName unless arrow is a name."""
    if not is_name(arrow):
        raise BadName(arrow)


def check_word(word):
    """Raise BadWord unless word is one of both words."""
    if not isinstance(word, str) or word not in WORDS:
        raise BadWord(word)


def lone(web, arrow):
    """Whether the web is lone for the arrows of this name; if it is not, two roads that show it."""
    check_name(arrow)
    return lone_told(Roads(web, arrow))


def lone_told(roads):
    """What lone tells of these roads."""
    if roads.two is None:
        return ("lone",)
    place, one, other = roads.two
    return "two", place, (*roads.road_to(one), place), (*roads.road_to(other), place)


def shows_lone(web, arrow, value):
    """Whether value is what lone may return."""
    check_name(arrow)
    roads = Roads(web, arrow)
    if not isinstance(value, tuple) or len(value) == 0 or not isinstance(value[0], str):
        return False
    if roads.two is None:
        return value == ("lone",)
    if value[0] != "two" or len(value) != 4 or not is_integer(value[1]) or value[1] not in roads.many:
        return False
    ends = (0, value[1])
    steps = roads.many[value[1]]
    shown = [is_road(web, arrow, road) and (road[0], road[-1]) == ends and len(road) == steps + 1 for road in value[2:]]
    return all(shown) and value[2] != value[3]


def is_road(web, arrow, value):
    """Whether value is a tuple of one place or more, with an arrow from each one to the next."""
    if not isinstance(value, tuple) or not all([is_integer(place) for place in value]) or len(value) == 0:
        return False
    return all([has_arrow(web, arrow, one, other) for one, other in zip(value, value[1:])])


def lone_reader(arrow, word):
    """The reader that lets a web by one roll alone if it is lone, and a road leads to its last place, or none does.

    It counts how many places are within so many steps, and how many steps lead to them together.
    The roll has to tell as many places, with roads that have no more steps together: so just
    those that are within the steps, and a shortest road to each. In a lone web there is only one.
    """
    check_name(arrow)
    check_word(word)
    made = RowList()
    made.put("up", "many")
    made.put("up", "more")
    made.label("round")
    made.put("up", "most")
    put_places(made, arrow)
    put_answer(made, "let" if word == "way" else "refused")
    put_next(made, "refused" if word == "way" else "let")
    made.label("let")
    made.put("let")
    made.label("refused")
    made.put("refuse")
    return Reader(reader_text(2, BOXES, made.told()))


def put_places(made, arrow):
    """Put the rows that go through all places, the roll telling which are within the steps, and a road to each."""
    made.label("place")
    made.put("either", "behind")
    made.put("up", "count")
    made.label("walk")
    made.put("same", "walked", "other", "there")
    made.put("take", 1, "next")
    made.put("arrow", arrow, "walked", "next", "step")
    made.put("go", "refused")
    made.label("step")
    made.put("same", "total", "sum", "refused")
    made.put("up", "total")
    made.put("put", "walked", "next")
    made.put("go", "walk")
    made.label("there")
    made.put("set", "walked", 0)
    made.put("set", "next", 0)
    made.put("arrow", arrow, "other", "asked", "leads")
    made.label("look")
    made.put("same", "other", "asked", "itself")
    made.label("behind")
    made.put("edge", 1, "other", "all")
    made.put("up", "other")
    made.put("go", "place")
    made.label("leads")
    made.put("set", "led", 1)
    made.put("go", "look")
    made.label("itself")
    made.put("set", "old", 1)
    made.put("go", "behind")


def put_answer(made, come):
    """Put the rows that count what is asked for if it is new within one step more; on to come if it is the last."""
    made.label("all")
    made.put("less", "count", "many", "refused")
    made.put("is", "old", 1, "next")
    made.put("is", "led", 0, "next")
    made.put("edge", 1, "asked", come)
    made.put("up", "more")
    made.label("adding")
    made.put("same", "added", "most", "added")
    made.put("up", "added")
    made.put("up", "longer")
    made.put("go", "adding")
    made.label("added")
    made.put("set", "added", 0)


def put_next(made, grown):
    """Put the rows that go on to the next place, to the next round, or to grown if there are no more than before."""
    made.label("next")
    for box in ("other", "count", "total", "led", "old"):
        made.put("set", box, 0)
    made.put("edge", 1, "asked", "last")
    made.put("up", "asked")
    made.put("go", "place")
    made.label("last")
    made.put("set", "asked", 0)
    made.put("same", "many", "more", grown)
    made.put("put", "many", "more")
    made.put("put", "sum", "longer")
    made.put("go", "round")


def lone_roll(web, arrow, word):
    """The only roll by which the lone reader lets this lone web; raises BadName, BadWord, NotLone, NotSo."""
    check_name(arrow)
    check_word(word)
    roads = Roads(web, arrow)
    if roads.two is not None:
        raise NotLone(lone_told(roads))
    last = web.places - 1
    if (last in roads.many) != (word == "way"):
        raise NotSo(word)
    rounds = roads.many[last] if word == "way" else max(list(roads.many.values())) + 1
    roll = []
    for most in range(rounds):
        told = []
        for place in range(web.places):
            within = roads.many.get(place, most + 1) <= most
            told.extend([ON, *roads.road_to(place)[1:]] if within else [OUT])
        for _ in range(web.places):
            roll.extend(told)
    return tuple(roll)
