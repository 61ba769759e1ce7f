"""Forms of sayings that are led back along a making."""

from contraryrolls.errors import TooGreat
from contraryrolls.makings import sayings_of
from contraryrolls.rowlists import counted_name
from contraryrolls.sayings import MOST_FORMS


class Scope:
    """What holds around a form: the tuple of names that stands for each name, of wide names each.

    level is how many names are bound there; inside tells whether the form is one of the making.
    """

    def __init__(self, names, level, wide, inside):
        self.names = names
        self.level = level
        self.wide = wide
        self.inside = inside

    def binding(self, names):
        """The scope within a form that binds these names."""
        told = {name: self.names[name] for name in self.names}
        level = self.level
        for name in names:
            # No two names that hold at one place have one level.
            told[name] = tuple([counted_name(level + at) for at in range(self.wide)])
            level += self.wide
        return Scope(told, level, self.wide, self.inside)

    def standing_for(self, names):
        """The list of the names that stand for these."""
        return [one for name in names for one in self.names[name]]


def led_tokens(making, saying):
    """The list of the tokens of what a saying becomes; raises TooGreat if they are by far too many."""
    sayings = sayings_of(making)
    tokens = []
    many = 0
    # Tokens, and forms with the scope around them, what comes next last.
    waiting = [(saying.tree, Scope({}, 0, making.wide, False))]
    while waiting:
        part = waiting.pop()
        if isinstance(part, str):
            tokens.append(part)
        else:
            many += 1
            # Each form that is told comes of two at most: itself, and the question it is the answer of.
            if many > 2 * MOST_FORMS:
                raise TooGreat(MOST_FORMS)
            make = MAKERS[part[0][0]]
            waiting.extend(make(sayings, part[0], part[1])[::-1])
    return tokens


def led_question(sayings, form, scope):
    """What becomes of `mark`, `arrow`."""
    names = scope.standing_for(form[2:])
    if scope.inside:
        return ["(", form[0], form[1], *names, ")"]
    if form[:2] not in sayings:
        return ["(", "not", "(", "same", names[0], names[0], ")", ")"]
    saying = sayings[form[:2]]
    held = {name: (told,) for name, told in zip(saying.names, names)}
    return [(saying.tree, Scope(held, scope.level, 1, True))]


def led_test(sayings, form, scope):
    """What becomes of `same`, `first`, `last`: it has to be so of the first names, and of the second ones."""
    parts = tests_of(form[0], form, scope)
    return ["(", "and", *parts[0], *parts[1], ")"] if scope.wide == 2 else parts[0]


def led_less(sayings, form, scope):
    """What becomes of `less`: the first names decide unless they are the same."""
    parts = tests_of("less", form, scope)
    if scope.wide == 1:
        return parts[0]
    same = tests_of("same", form, scope)[0]
    return ["(", "or", *parts[0], "(", "and", *same, *parts[1], ")", ")"]


def tests_of(word, form, scope):
    """The tokens of the form with this word for the first names that stand for those of a form, and so on."""
    return [["(", word, *[scope.names[name][at] for name in form[1:]], ")"] for at in range(scope.wide)]


def led_join(sayings, form, scope):
    """What becomes of `not`, `and`, `or`."""
    return ["(", form[0], *[(part, scope) for part in form[1:]], ")"]


def led_binder(sayings, form, scope):
    """What becomes of `some`, `all`, `many`, `even`: a form for each name that stands for the one that it binds."""
    inner = scope.binding([form[-2]])
    told = []
    for name in inner.names[form[-2]]:
        told.extend(["(", form[0], *[str(many) for many in form[1:-2]], name])
    return [*told, (form[-1], inner), *[")"] * inner.wide]


def led_way(sayings, form, scope):
    """What becomes of `way`."""
    inner = scope.binding(form[1] + form[2])
    return ["(", "way", *in_brackets(inner, form[1]), *in_brackets(inner, form[2]), (form[3], inner),
            *in_brackets(scope, form[4]), *in_brackets(scope, form[5]), ")"]


def in_brackets(scope, names):
    """The tokens of a bracket with the names that stand for these."""
    return ["(", *scope.standing_for(names), ")"]


MAKERS = {
    "arrow": led_question,
    "mark": led_question,
    "same": led_test,
    "less": led_less,
    "first": led_test,
    "last": led_test,
    "not": led_join,
    "and": led_join,
    "or": led_join,
    "some": led_binder,
    "all": led_binder,
    "many": led_binder,
    "even": led_binder,
    "way": led_way,
}
