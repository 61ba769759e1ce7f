"""Sayings about webs, and sayings made of them."""

from contraryrolls.errors import BadNames, BadSaying, TooGreat
from contraryrolls.tokens import read_tokens, text_of, tokens_of, tree_of
from contraryrolls.words import are_unlike_names

MOST_FREE = 4
MOST_FORMS = 400
BINDERS = ("some", "all", "many", "even")

# What a form becomes if the not ahead of it goes into it.
TURNED = {"and": "or", "or": "and", "some": "all", "all": "some"}


class Saying:
    """The saying with this text and these free names; raises BadNames, BadSaying, TooGreat."""

    def __init__(self, text, names=()):
        if not are_unlike_names(names) or len(names) > MOST_FREE:
            raise BadNames(names)
        tokens = tokens_of(text)
        if tokens is None:
            raise BadSaying(-1)
        reading = read_tokens(tokens, names)
        if len(reading.words) > MOST_FORMS:
            raise TooGreat(MOST_FORMS)
        self.text = text
        self.names = names
        self.tree = tree_of(tokens)
        self.depth = reading.depth
        self.ways = reading.words.count("way")
        self.binders = len([word for word in reading.words if word in BINDERS])
        self.width = reading.width
        self._words = tuple(reading.words)

    def __eq__(self, other):
        return isinstance(other, Saying) and self.text == other.text and self.names == other.names

    def __len__(self):
        return len(self._words)


def inner_forms(form):
    """The trees of the sayings that stand in a form, in their order."""
    if form[0] in ("not", "and", "or"):
        return list(form[1:])
    if form[0] in ("some", "all", "even"):
        return [form[2]]
    return [form[3]] if form[0] in ("many", "way") else []


def contrary_saying(saying):
    """The saying that is so exactly if this one is not; raises TooGreat."""
    return Saying(f"(not {saying.text})", saying.names)


def pushed(saying):
    """The saying in which each not has gone inside as far as it can; raises TooGreat."""
    tokens = []
    waiting = [(saying.tree, False)]
    while waiting:
        part, denied = waiting.pop()
        if isinstance(part, str):
            tokens.append(part)
        else:
            waiting.extend(pushed_parts(part, denied)[::-1])
    return Saying(text_of(tokens), saying.names)


def pushed_parts(form, denied):
    """What comes of a form, or of not ahead of it if it is denied.

    Pairs of a form in it and whether that one is denied, or of a token and anything.
    """
    word = form[0]
    if word == "not":
        return [(form[1], not denied)]
    if word in TURNED:
        inner = [(part, denied) for part in form[1:]]
        return [("(", False), (TURNED[word] if denied else word, False), *inner, (")", False)]
    parts = [("(", False), ("not", False)] if denied else []
    parts.extend([("(", False), (word, False)])
    for at, part in enumerate(form[1:], start=1):
        if word == "way" and at != 3:
            parts.extend([(token, False) for token in ("(", *part, ")")])
        else:
            parts.append((part if isinstance(part, tuple) else str(part), False))
    parts.extend([(")", False)] * (2 if denied else 1))
    return parts
