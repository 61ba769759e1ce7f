"""Plain reckonings that the tests compare the program with, and readers and webs that are drawn."""
import itertools

from contraryrolls.readers import Reader
from contraryrolls.webs import Web

WORDS = ('take either same less is within edge mark arrow set put up go let refuse').split()


def reader_of(rows, boxes='', room=1):
    """The reader with these rows, a list or a text with one blank and a bar between two."""
    if isinstance(rows, str):
        rows = rows.split(' | ')
    return Reader('\n'.join([f'room {room}', f'boxes {boxes}'.rstrip(), *rows]))


def is_so(reader, web, row, numbers):
    """Whether what a row tests is so."""
    word, places = row[0], range(web.places)
    if word == 'same':
        return numbers[row[1]] == numbers[row[2]]
    if word == 'less':
        return numbers[row[1]] < numbers[row[2]]
    if word == 'is':
        return numbers[row[1]] == row[2]
    if word == 'within':
        return numbers[row[2]] < web.places ** row[1]
    if word == 'edge':
        return numbers[row[2]] == web.places ** row[1] - 1
    if word == 'mark':
        return numbers[row[2]] in places and numbers[row[2]] in dict(web.marks).get(row[1], ())
    return (numbers[row[2]], numbers[row[3]]) in dict(web.arrows).get(row[1], ())


def move(reader, web, standing):
    """('let',), ('refused',), ('on', standing) or ('signs', bound, what leads from a sign to a standing)."""
    at, numbers = standing
    row = reader.rows[at]
    word = row[0]
    here = dict(zip(reader.boxes, numbers))

    def with_(box, number):
        return tuple(number if name == box else here[name] for name in reader.boxes)

    if word in ('let', 'refuse'):
        return ('let',) if word == 'let' else ('refused',)
    if word == 'take':
        return 'signs', web.places ** row[1], lambda sign: (at + 1, with_(row[2], sign))
    if word == 'either':
        return 'signs', 2, lambda sign: ((at + 1, row[1])[sign], numbers)
    if word == 'go':
        return 'on', (row[1], numbers)
    if word in ('set', 'put', 'up'):
        number = {'set': lambda: row[2], 'put': lambda: here[row[2]], 'up': lambda: here[row[1]] + 1}[word]()
        if number >= web.places ** reader.room:
            return ('refused',)
        return 'on', (at + 1, with_(row[1], number))
    return 'on', (row[-1] if is_so(reader, web, row, here) else at + 1, numbers)


def plain_play(reader, web, roll):
    standing = (0, (0,) * len(reader.boxes))
    taken, seen = 0, set()
    while standing[0] < len(reader.rows):
        if standing in seen:
            return ('round',)
        seen.add(standing)
        word, *rest = move(reader, web, standing)
        if word == 'let':
            return 'let', taken
        if word == 'refused':
            return 'refused', standing[0]
        if word == 'on':
            standing = rest[0]
            continue
        if taken == len(roll):
            return 'ended', standing[0]
        if roll[taken] >= rest[0]:
            return 'refused', standing[0]
        standing = rest[1](roll[taken])
        taken += 1
        seen = set()
    return 'refused', len(reader.rows)


def plain_next(reader, web, standing):
    """The list of (None or a sign, standing) to which a step leads."""
    word, *rest = move(reader, web, standing)
    told = []
    if word == 'on':
        told = [(None, rest[0])]
    if word == 'signs':
        told = [(sign, rest[1](sign)) for sign in range(rest[0])]
    return [(sign, after) for sign, after in told if after[0] < len(reader.rows)]


def plain_levels(reader, web):
    """The list of the sets of standings that are come to first by 0, 1, .. steps."""
    first = (0, (0,) * len(reader.boxes))
    seen, levels = {first}, [{first}]
    while levels[-1]:
        fresh = {after for standing in levels[-1] for _, after in plain_next(reader, web, standing)} - seen
        seen |= fresh
        levels.append(fresh)
    return levels[:-1]


def plain_standings(reader, web):
    return set().union(*plain_levels(reader, web))


def plain_lets(reader, web):
    return any(reader.rows[row][0] == 'let' for row, _ in plain_standings(reader, web))


def rolls_to(bound, length):
    """All rolls of just this length with signs below bound."""
    return itertools.product(range(bound), repeat=length)


def drawn_row(draw, rows, boxes, room, words=WORDS):
    word = draw.choice([word for word in words if boxes or word in ('either', 'go', 'let', 'refuse')])
    part = {
        'Q': lambda: str(draw.randint(0, room)), 'B': lambda: draw.choice(boxes),
        'K': lambda: str(draw.choice([0, 0, 1, 1, 2, 3, 4, 7, 8, 999999999])),
        'L': lambda: str(draw.randrange(rows)), 'M': lambda: draw.choice(['m', 'm', 'q']),
        'A': lambda: draw.choice(['r', 'r', 's']),
    }
    forms = {'take': 'QB', 'either': 'L', 'same': 'BBL', 'less': 'BBL', 'is': 'BKL', 'within': 'QBL', 'edge': 'QBL',
             'mark': 'MBL', 'arrow': 'ABBL', 'set': 'BK', 'put': 'BB', 'up': 'B', 'go': 'L', 'let': '', 'refuse': ''}
    return ' '.join([word] + [part[letter]() for letter in forms[word]])


def drawn_reader(draw, rows, boxes, room, words=WORDS):
    """A reader with so many rows and boxes."""
    names = draw.sample(['a', 'b', 'c', 'z', 'asked', 'many'], boxes)
    return reader_of([drawn_row(draw, rows, names, room, words) for _ in range(rows)], ' '.join(names), room)


def drawn_web(draw, places, marks=('m',), arrows=('r',)):
    """A web with just these names."""
    lines = [f'places {places}']
    share = draw.random()
    for name in marks:
        lines.append(' '.join(['mark', name] + [str(at) for at in range(places) if draw.random() < share]))
    for name in arrows:
        lines.append(' '.join(['arrow', name] + [
            f'{one}-{other}' for one in range(places) for other in range(places) if draw.random() < share]))
    return Web('\n'.join(lines))
