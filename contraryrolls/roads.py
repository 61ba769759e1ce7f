"""The shortest roads of a web by arrows of one name, from the first place to all others."""

from contraryrolls.webs import has_arrow


class Roads:
    """One shortest road to each place to which there is a road.

    many has how many steps it has, ahead the place ahead of its last one. two is None, or the
    first place that is found to have two shortest roads, and the places ahead of it on both.
    """

    def __init__(self, web, arrow):
        self.many = {0: 0}
        self.ahead = {}
        self.two = None
        front = [0]
        while front:
            front = [other for one in front for other in range(web.places)
                     if has_arrow(web, arrow, one, other) and self.is_new(one, other)]

    def is_new(self, one, other):
        """Go on from one to other; whether there was no road to other before."""
        steps = self.many[one] + 1
        if other not in self.many:
            self.many[other] = steps
            self.ahead[other] = one
            return True
        if self.many[other] == steps and self.two is None:
            self.two = (other, self.ahead[other], one)
        return False

    def road_to(self, place):
        """The shortest road to a place that was found first."""
        told = [place]
        while place != 0:
            place = self.ahead[place]
            told.append(place)
        return tuple(told[::-1])
