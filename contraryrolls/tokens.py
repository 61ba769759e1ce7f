"""The tokens of sayings, and which rows of tokens are sayings."""

from contraryrolls.errors import BadSaying
from contraryrolls.words import is_name

DIGITS = "123456789"

# What stands behind the word of each form. X is any name, B one that is bound at its place or
# free, N one that is neither and that the form binds, K a digit, S a saying, T and V one in
# which what the form binds is bound, V in a way; M none or more sayings up to the last bracket.
# O and C are brackets. W is what stands behind the first name of a way.
FORMS = {
    "arrow": "XBBC",
    "mark": "XBC",
    "same": "BBC",
    "less": "BBC",
    "first": "BC",
    "last": "BC",
    "not": "SC",
    "and": "SSM",
    "or": "SSM",
    "some": "NTC",
    "all": "NTC",
    "many": "KNTC",
    "even": "NTC",
    "way": "ONW",
}

# What stands behind the first name of a way with one name in each bracket, and with two.
WAY_OF_ONE = "ONCVOBCOBCC"
WAY_OF_TWO = "CONNCVOBBCOBBCC"

# These cannot stand where no name is bound or free.
IN_NEED_OF_NAMES = ("arrow", "mark", "same", "less", "first", "last", "way")


class Reading:
    """Tokens taken as those of a saying, one after the other, and what is told of it so far.

    words are those of its forms. goals is what has to follow, the next one last: letters as in
    FORMS, H for the word of a form, or a tuple with the names of a form that are no longer
    bound then, and in how many ways the place behind it stands.
    """

    def __init__(self, names):
        self.bound = {name: True for name in names}
        self.fresh = []
        self.goals = ["S"]
        self.words = []
        self.within = 0
        self.depth = 0
        self.width = len(names)

    def goal(self):
        """What the next token has to be; None if no token may follow."""
        while self.goals:
            goal = self.goals.pop()
            if isinstance(goal, tuple):
                names, self.within = goal
                for name in names:
                    del self.bound[name]
            elif goal == "T" or goal == "V":
                self.bind(1 if goal == "V" else 0)
            else:
                return goal
        return None

    def bind(self, ways):
        """What the form names is bound in the saying that follows."""
        self.goals.extend([(tuple(self.fresh), self.within), "S"])
        for name in self.fresh:
            self.bound[name] = True
        self.fresh = []
        self.within += ways
        self.depth = max(self.depth, self.within)
        self.width = max(self.width, len(self.bound))

    def takes(self, token):
        """Take the next token; False if it cannot stand there."""
        goal = self.goal()
        if goal == "H":
            return self.takes_word(token)
        if goal == "S" or (goal == "M" and token == "("):
            self.goals.extend(["M", "H"] if goal == "M" else ["H"])
            return token == "("
        if goal == "W":
            self.goals.extend(list(WAY_OF_ONE if token == ")" else WAY_OF_TWO)[::-1])
            return token == ")" or self.fits("N", token)
        return self.fits(goal, token)

    def takes_word(self, word):
        """Take the word of a form."""
        if word not in FORMS or (word in IN_NEED_OF_NAMES and not self.bound):
            return False
        self.words.append(word)
        self.goals.extend(list(FORMS[word])[::-1])
        return True

    def fits(self, goal, token):
        """Whether the token is what this letter asks for."""
        if goal == "X":
            return is_name(token)
        if goal == "B":
            return token in self.bound
        if goal == "K":
            return token in DIGITS
        if goal == "N":
            right = is_name(token) and token not in self.bound and token not in self.fresh
            self.fresh.append(token)
            return right
        return goal is not None and token == ("(" if goal == "O" else ")")


def tokens_of(text):
    """The list of the tokens of a text; None if it is no row of tokens."""
    if not isinstance(text, str):
        return None
    words = text.replace("(", " ( ").replace(")", " ) ").split(" ")
    tokens = [word for word in words if word]
    if not all([token in ("(", ")") or is_name(token) or (len(token) == 1 and token in DIGITS) for token in tokens]):
        return None
    return tokens if text_of(tokens) == text else None


def text_of(tokens):
    """The text of a row of tokens."""
    return " ".join(tokens).replace("( ", "(").replace(" )", ")")


def read_tokens(tokens, names):
    """The Reading of all these tokens; raises BadSaying if they are no saying with these free names."""
    reading = Reading(names)
    for at, token in enumerate(tokens):
        if not reading.takes(token):
            raise BadSaying(at)
    if reading.goal() is not None:
        raise BadSaying(len(tokens))
    return reading


def tree_of(tokens):
    """The tree of the saying with these tokens."""
    waiting = [[]]
    for token in tokens:
        if token == "(":
            waiting.append([])
        elif token == ")":
            part = tuple(waiting.pop())
            waiting[-1].append(part)
        else:
            waiting[-1].append(int(token) if token in DIGITS else token)
    return waiting[0][0]
