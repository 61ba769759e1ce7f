"""Rolls by which readers for the contrary, and readers of ways, let a web."""

from contraryrolls.contraries import check_size
from contraryrolls.courses import Course, next_standings
from contraryrolls.errors import BadName, HasWay, Lets, NoWay, TooMany
from contraryrolls.plays import roll_of
from contraryrolls.webs import has_arrow
from contraryrolls.words import is_name, powers

MOST_SIZE = 24
MOST_PLACES = 8

# Signs of the rows `either` of readers that count: one walk or step more, or none any more.
ON = (0,)
END = (1,)


class Walks:
    """The shortest walks from a first standing, or place, to all others that can be come to.

    For each of them: how many steps they have, what is one step ahead, and their signs, ON and
    those of the step itself for each step.
    """

    def __init__(self, first):
        self.many = {first: 0}
        self.ahead = {}
        self.signs = {first: ()}

    def step(self, one, other, signs):
        """Keep that a step with these signs leads from one to other; whether other is new."""
        if other in self.many:
            return False
        self.many[other] = self.many[one] + 1
        self.ahead[other] = one
        self.signs[other] = self.signs[one] + ON + signs
        return True


def written(reader, web):
    """A roll by which the contrary of the reader lets the web."""
    check_size(reader)
    base = powers(web.places, reader.room)[-1]
    if len(reader.rows) * powers(base, len(reader.boxes))[-1] > MOST_SIZE:
        raise TooMany(MOST_SIZE)
    roll = roll_of(reader, web)
    if roll is not None:
        raise Lets(roll)
    asked = []
    for row in range(len(reader.rows)):
        asked.extend([(row, numbers) for numbers in all_numbers(base, len(reader.boxes))])
    return counting_roll(asked, walks_of_reader(reader, web))


def all_numbers(base, many):
    """All tuples of so many numbers below base, of which the first one goes on fastest."""
    told = [()]
    for _ in range(many):
        told = [(*numbers, number) for number in range(base) for numbers in told]
    return told


def walks_of_reader(reader, web):
    """The walks from the first standing of the reader."""
    course = Course(reader, web)
    first = (0, course.first_numbers())
    walks = Walks(first)
    front = [first]
    while front:
        front = [other for one in front for sign, other in next_standings(course, one)
                 if walks.step(one, other, () if sign is None else (sign,))]
    return walks


def walks_of_web(web, name):
    """The walks from the first place along the arrows of this name; the sign of a step is its place."""
    walks = Walks(0)
    front = [0]
    while front:
        front = [other for one in front for other in range(web.places)
                 if has_arrow(web, name, one, other) and walks.step(one, other, (other,))]
    return walks


def counting_roll(asked, walks):
    """The roll for a reader that counts, all these being asked for in their order in each round."""
    roll = []
    for most in range(max(list(walks.many.values())) + 1):
        all_shown = ()
        for one in sorted(walks.many):
            if walks.many[one] <= most:
                all_shown = all_shown + ON + walks.signs[one] + END
        for one in asked:
            many = walks.many.get(one, most + 2)
            if many > most + 1:
                roll.extend(all_shown + END)
            else:
                shown = one if many <= most else walks.ahead[one]
                roll.extend(ON + walks.signs[shown] + END)
    return tuple(roll)


def way_roll(web, name):
    """A roll by which the reader of ways along these arrows lets the web."""
    if not is_name(name):
        raise BadName(name)
    way = way_to_last(web, name)
    if way is None:
        raise NoWay(None)
    return way[1:]


def way_to_last(web, name):
    """The tuple of the places along a way from the first place to the last one; None if there is none."""
    walks = walks_of_web(web, name)
    place = web.places - 1
    if place not in walks.many:
        return None
    way = [place]
    while place != 0:
        place = walks.ahead[place]
        way.append(place)
    return tuple(way[::-1])


def no_way_roll(web, name):
    """A roll by which the reader of no way along these arrows lets the web."""
    if not is_name(name):
        raise BadName(name)
    if web.places > MOST_PLACES:
        raise TooMany(MOST_PLACES)
    way = way_to_last(web, name)
    if way is not None:
        raise HasWay(way)
    return counting_roll(list(range(web.places)), walks_of_web(web, name))
