"""All standings to which a reader comes on a web, and by which signs."""

from contraryrolls.courses import CHANGE, Course, LET, TAKE, TEST, with_number
from contraryrolls.errors import TooMany

MOST_STANDINGS = 100000

# How a chain ends where it comes to no fork.
LETS = -1
DEAD = -2


class Search:
    """All standings to which a reader comes on a web; raises TooMany.

    They are gone through in chains. The first chain begins at the first standing, each other
    one behind a sign; a chain ends where the web is let, where it is dead, or at a fork, where
    a sign is taken. What `take` overwrites is forgotten, so standings at one row that differ
    in nothing else share a fork.

    starts: for each chain (numbers, row, the fork ahead of it); ends: for each chain LETS, DEAD
    or its fork; forks: for each fork (its first chain, how many chains, the chain that came to
    it first). Chains stand in the order of how many signs are ahead of them.
    """

    def __init__(self, reader, web):
        self.course = Course(reader, web)
        self.seen = {}
        self.known = {}
        self.starts = [(self.course.first_numbers(), 0, None)]
        self.ends = []
        self.forks = []
        self.forked = {}
        self.promised = 0
        while len(self.ends) < len(self.starts):
            self.ends.append(self.follow(len(self.ends)))

    def follow(self, chain):
        """Go along a chain, and tell how it ends."""
        course, seen, known = self.course, self.seen, self.known
        deeds, many = course.deeds, course.many
        numbers, row, _ = self.starts[chain]
        base = known.setdefault(numbers, len(known)) * many
        while row < many:
            if base + row in seen:
                # A chain that comes to itself goes round and takes no sign any more.
                before = seen[base + row]
                return DEAD if before == chain else self.ends[before]
            if len(seen) == MOST_STANDINGS:
                raise TooMany(MOST_STANDINGS)
            seen[base + row] = chain
            kind, step, _ = deeds[row] or course.made(row)
            if kind == TEST:
                row = step(numbers)
            elif kind == CHANGE:
                fresh = list(numbers)
                row = step(fresh)
                numbers = tuple(fresh)
                base = known.setdefault(numbers, len(known)) * many
            elif kind >= LET:
                return LETS if kind == LET else DEAD
            else:
                return self.fork(chain, row, numbers)
        return DEAD

    def fork(self, chain, row, numbers):
        """The number of the fork at this row, DEAD if none of its chains can begin."""
        kind, step, bound = self.course.deeds[row]
        if kind == TAKE:
            if row + 1 == self.course.many:
                return DEAD
            numbers = with_number(numbers, step, 0)
        key = self.known.setdefault(numbers, len(self.known)) * self.course.many + row
        if key not in self.forked:
            self.forked[key] = len(self.forks)
            self.forks.append((len(self.starts), bound, chain))
            self.begin(row, numbers)
        return self.forked[key]

    def begin(self, row, numbers):
        """Put the chains behind a new fork behind all others."""
        kind, step, bound = self.course.deeds[row]
        fork = len(self.forks) - 1
        if kind == TAKE:
            # All these chains begin at unlike standings, so they need not be listed to be counted.
            self.promised += bound
            if self.promised > MOST_STANDINGS:
                raise TooMany(MOST_STANDINGS)
            self.starts.extend([(with_number(numbers, step, sign), row + 1, fork) for sign in range(bound)])
        else:
            self.starts.extend([(numbers, row + 1, fork), (numbers, step, fork)])

    def signs_ahead(self, chain):
        """The tuple of the signs behind which a chain begins."""
        signs = []
        while chain > 0:
            first, _, before = self.forks[self.starts[chain][2]]
            signs.append(chain - first)
            chain = before
        return tuple(signs[::-1])

    def tallies(self):
        """For each fork a dict: as how many of its chains end in LETS, DEAD or another fork."""
        told = []
        for first, many, _ in self.forks:
            tally = {}
            for end in self.ends[first:first + many]:
                tally[end] = tally.get(end, 0) + 1
            told.append(tally)
        return told
