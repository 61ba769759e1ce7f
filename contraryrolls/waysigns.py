"""The signs for the rows that show that there is a way, or that there is none."""

from contraryrolls.words import number_of

ON = 0
END = 1


class Steps:
    """The steps of a way in a saying on a web, between tuples of places, which have the numbers of nodes.

    A node's places are the figures of its number. known has for each node that is come to how
    many steps lead there at least, ahead the one from which the last of these leads.
    """

    def __init__(self, writer, order, number):
        self.writer = writer
        self.form = order.inner[0]
        self.size = order.many
        self.nodes = writer.powers[self.size]
        self.base = number * self.nodes * self.nodes
        places = [number // writer.powers[order.size - 1 - at] % writer.places for at in order.at]
        self.first = number_of(places[:self.size], writer.places)
        self.end = number_of(places[self.size:], writer.places)
        self.known = {self.first: 0}
        self.ahead = {}
        self.kept = {}
        self.find_all()

    def find_all(self):
        """Go to all that are come to, by the fewest steps."""
        figures = self.writer.figures[self.form]
        front = [self.first]
        while front:
            fresh = []
            for one in front:
                for other in range(self.nodes):
                    if other not in self.known and figures[self.places_for(one, other)] == "1":
                        self.known[other] = self.known[one] + 1
                        self.ahead[other] = one
                        fresh.append(other)
            front = fresh

    def places_for(self, one, other):
        """The number of the places for the saying of the way, from one node to the other."""
        return self.base + one * self.nodes + other

    def places_of(self, node):
        """The list of the places of a node."""
        return [node // self.writer.powers[at] % self.writer.places for at in range(self.size - 1, -1, -1)]

    def nodes_to(self, node):
        """The list of the nodes on the way there, behind the first one."""
        told = []
        while node != self.first:
            told.append(node)
            node = self.ahead[node]
        return told[::-1]

    def step_signs(self, so, one, other):
        """The tuple of the signs that show that one step leads from one to other, or that none does."""
        key = (one, other)
        if key not in self.kept:
            self.kept[key] = self.writer.form_signs(self.form, so, self.places_for(one, other))
        return self.kept[key]

    def walk_signs(self, node):
        """The tuple of the signs of the walk there."""
        told = []
        one = self.first
        for other in self.nodes_to(node):
            told.extend([ON, *self.places_of(other), *self.step_signs(True, one, other)])
            one = other
        return (*told, END)


def way_signs(writer, order, number):
    """What is told for a way that is so."""
    steps = Steps(writer, order, number)
    told = []
    one = steps.first
    for other in steps.nodes_to(steps.end):
        told.extend([*steps.places_of(other), (steps.form, True, steps.places_for(one, other))])
        one = other
    return told


def no_way_signs(writer, order, number):
    """What is told for a way that is not so: all rounds of counting what is come to."""
    steps = Steps(writer, order, number)
    walks = {node: steps.walk_signs(node) for node in steps.known}
    told = []
    for most in range(1, max(list(steps.known.values())) + 2):
        shown = [node for node in sorted(steps.known) if steps.known[node] < most]
        for asked in range(steps.nodes):
            if steps.known.get(asked, most + 1) <= most:
                told.extend([ON, *walks[asked]])
            else:
                told.append(END)
                for node in shown:
                    told.extend([*walks[node], *steps.step_signs(False, node, asked)])
    return told
