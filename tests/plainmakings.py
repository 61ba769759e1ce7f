"""Makings that are drawn, and a plain reckoning of made webs, that the tests compare the program with."""
import itertools

from contraryrolls.makings import Making
from tests.plainsayings import drawn_saying, plain_so

POOL = ['x', 'y', 'z', 'some', 'not']


def line_of(word, name, names, wide, saying):
    """A line of a making."""
    brackets = ' '.join('(' + ' '.join(names[at:at + wide]) + ')' for at in range(0, len(names), wide))
    return f'{word} {name} {brackets} {saying}'


def drawn_making(draw, depth, ways, wide=None):
    """A making of places or of pairs, with marks m and r and an arrow r, or some of these."""
    wide = wide or draw.choice([1, 2])
    lines = [f'wide {wide}']
    for word, name in (('mark', 'm'), ('arrow', 'r'), ('mark', 'r')):
        if draw.random() < 0.8:
            names = draw.sample(POOL, wide if word == 'mark' else 2 * wide)
            lines.append(line_of(word, name, names, wide, drawn_saying(draw, names, draw.choice(range(depth + 1)), ways)))
    return Making('\n'.join(lines))


def plain_made(making, web):
    """How many places the made web has, its marks and its arrows."""
    tuples = list(itertools.product(range(web.places), repeat=making.wide))

    def is_so(saying, row):
        return plain_so(saying.tree, web, dict(zip(saying.names, row)))

    marks = tuple((name, tuple(at for at, one in enumerate(tuples) if is_so(saying, one)))
                  for name, saying in making.marks)
    arrows = tuple((name, tuple((at, to) for at, one in enumerate(tuples) for to, other in enumerate(tuples)
                                if is_so(saying, one + other)))
                   for name, saying in making.arrows)
    return len(tuples), marks, arrows
