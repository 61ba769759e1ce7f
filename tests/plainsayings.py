"""Plain reckonings about sayings that the tests compare the program with, and sayings that are drawn."""
import itertools

from contraryrolls.webs import has_arrow, has_mark

NAMES = ['x', 'y', 'z', 'u', 'some', 'not', 'way', 'first', 'a', 'b', 'c', 'd', 'e', 'f', 'g', 'h']
WORDS = ['arrow', 'mark', 'same', 'less', 'first', 'last', 'not', 'and', 'or', 'some', 'all', 'many', 'even', 'way']


class Bad(Exception):
    pass


class Descent:
    """Reads tokens as a saying, from the left, form by form."""

    def __init__(self, tokens):
        self.tokens, self.at = tokens, 0

    def next(self, right):
        if self.at == len(self.tokens) or not right(self.tokens[self.at]):
            raise Bad(self.at)
        self.at += 1
        return self.tokens[self.at - 1]

    def sign(self, sign):
        self.next(lambda token: token == sign)

    def names(self, right):
        """The names in a bracket with one or two of them."""
        self.sign('(')
        told = [self.next(right)]
        if self.at < len(self.tokens) and self.tokens[self.at] != ')':
            told.append(self.next(lambda token: right(token) and token not in told))
        self.sign(')')
        return told

    def bracket(self, many, right):
        self.sign('(')
        told = []
        for _ in range(many):
            told.append(self.next(lambda token: right(token, told)))
        self.sign(')')
        return told

    def saying(self, bound):
        def is_bound(token):
            return token in bound

        def is_fresh(token):
            return token.isalpha() and token not in bound

        self.sign('(')
        word = self.next(lambda token: token in WORDS and (bound or token in WORDS[6:13]))
        if word in ('arrow', 'mark'):
            self.next(str.isalpha)
        if word in ('mark', 'first', 'last'):
            self.next(is_bound)
        elif word in ('arrow', 'same', 'less'):
            self.next(is_bound)
            self.next(is_bound)
        elif word == 'not':
            self.saying(bound)
        elif word in ('and', 'or'):
            self.saying(bound)
            self.saying(bound)
            while self.at < len(self.tokens) and self.tokens[self.at] == '(':
                self.saying(bound)
        elif word == 'way':
            one = self.names(is_fresh)
            other = self.bracket(len(one), lambda token, told: is_fresh(token) and token not in one + told)
            self.saying(bound | set(one) | set(other))
            for _ in range(2):
                self.bracket(len(one), lambda token, told: is_bound(token))
        else:
            if word == 'many':
                self.next(str.isdigit)
            self.saying(bound | {self.next(is_fresh)})
        self.sign(')')


def plain_bad(tokens, names):
    """What BadSaying tells of these tokens; None if they are a saying."""
    descent = Descent(tokens)
    try:
        descent.saying(set(names))
        if descent.at < len(tokens):
            raise Bad(descent.at)
    except Bad as bad:
        return bad.args[0]
    return None


def spaced(tokens):
    """The text of these tokens."""
    text = ''
    for token in tokens:
        text += ('' if not text or text[-1] == '(' or token == ')' else ' ') + token
    return text


def plain_tokens(text):
    return text.replace('(', ' ( ').replace(')', ' ) ').split()


def plain_so(tree, web, here):
    """Whether the form is so of the web, names standing for places as told."""
    word, places = tree[0], range(web.places)
    if word == 'arrow':
        return has_arrow(web, tree[1], here[tree[2]], here[tree[3]])
    if word == 'mark':
        return has_mark(web, tree[1], here[tree[2]])
    if word in ('same', 'less'):
        one, other = here[tree[1]], here[tree[2]]
        return one == other if word == 'same' else one < other
    if word in ('first', 'last'):
        return here[tree[1]] == (0 if word == 'first' else web.places - 1)
    if word in ('not', 'and', 'or'):
        inner = [plain_so(part, web, here) for part in tree[1:]]
        return not inner[0] if word == 'not' else all(inner) if word == 'and' else any(inner)
    if word == 'way':
        return plain_way(tree, web, here)
    many = sum(plain_so(tree[-1], web, {**here, tree[-2]: place}) for place in places)
    return {'some': many > 0, 'all': many == web.places, 'even': many % 2 == 0,
            'many': word == 'many' and many >= tree[1]}[word]


def plain_way(tree, web, here):
    _, one, other, inner, begin, end = tree
    come_to = {tuple(here[name] for name in begin)}
    rows = list(itertools.product(range(web.places), repeat=len(one)))
    while True:
        new = {to for to in rows if to not in come_to and any(
            plain_so(inner, web, {**here, **dict(zip(one, start)), **dict(zip(other, to))}) for start in come_to)}
        if not new:
            return tuple(here[name] for name in end) in come_to
        come_to |= new


def drawn_saying(draw, names, depth, ways=2):
    """The text of a saying in which these names are bound or free."""
    def name():
        return draw.choice(names)

    def inner(more=(), fewer=0):
        return drawn_saying(draw, names + list(more), depth - 1, ways - fewer)

    fresh = [one for one in NAMES if one not in names]
    draw.shuffle(fresh)
    words = WORDS[:6] if names else []
    if depth > 0:
        words = words + WORDS[6:13] + (['way'] * 2 if ways and names else [])
    # Something has to be bound ahead of what ends a saying.
    words = words or WORDS[9:13]
    word = draw.choice(words)
    if word == 'arrow':
        return f'(arrow {draw.choice("rs")} {name()} {name()})'
    if word == 'mark':
        return f'(mark {draw.choice("mq")} {name()})'
    if word in ('same', 'less'):
        return f'({word} {name()} {name()})'
    if word in ('first', 'last'):
        return f'({word} {name()})'
    if word == 'not':
        return f'(not {inner()})'
    if word in ('and', 'or'):
        return f'({word} {" ".join(inner() for _ in range(draw.choice([2, 2, 3])))})'
    if word == 'way':
        many = draw.choice([1, 1, 2])
        one, other = fresh[:many], fresh[many:2 * many]
        begin, end = [' '.join(name() for _ in one) for _ in range(2)]
        return f'(way ({" ".join(one)}) ({" ".join(other)}) {inner(one + other, 1)} ({begin}) ({end}))'
    many = f' {draw.choice([1, 2, 2, 3, 9])}' if word == 'many' else ''
    return f'({word}{many} {fresh[0]} {inner(fresh[:1])})'
