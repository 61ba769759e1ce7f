"""Desks, which keep webs, readers and sayings under names, and their journals."""

from contraryrolls.contraries import contrary
from contraryrolls.errors import (BadDeed, BadDesk, BadKind, BadName, Held, NoNote, NothingToRedo, NothingToUndo,
                                  NoThing, RollError, WrongKind)
from contraryrolls.joins import both, either_of, turned
from contraryrolls.plays import lets_web
from contraryrolls.readers import Reader
from contraryrolls.sayings import Saying
from contraryrolls.truths import holds
from contraryrolls.webs import Web
from contraryrolls.words import is_name, number_in, placed, without

# For each deed how many parts stand behind its word.
PARTS = {"put": 3, "drop": 1, "copy": 2, "both": 3, "either": 3, "turned": 2, "contrary": 2}


class Desk:
    """A desk with no things."""

    def __init__(self):
        self.names = ()
        self._things = {}
        # For each deed: itself, the name of what it changes, and what that was before and is behind it.
        self._done = []
        self._stand = 0
        self._noted = {}

    def __len__(self):
        return len(self._things)

    def __contains__(self, value):
        return isinstance(value, str) and value in self._things

    def lead(self, deed):
        """Do a deed; undone ones are forgotten. Raises BadDeed, or what it is refused for."""
        if not is_deed(deed):
            raise BadDeed(deed)
        name, thing = self._outcome(deed)
        self._noted = {word: many for word, many in self._noted.items() if many <= self._stand}
        del self._done[self._stand:]
        self._done.append((deed, name, self._things.get(name), thing))
        self._go_to(self._stand + 1)

    def _outcome(self, deed):
        """The name of what a deed changes, and the pair of kind and thing that it is then; None if it is dropped."""
        word = deed[0]
        if word == "drop":
            self._check_thing(deed[1])
            return deed[1], None
        if word == "copy":
            self._check_thing(deed[1])
            self._check_new(deed[2])
            return deed[2], self._things[deed[1]]
        self._check_new(deed[1])
        if word == "put":
            return deed[1], (deed[2], put_thing(deed[2], deed[3]))
        for name in deed[2:]:
            self._check_kind(name, "reader")
        readers = [self._things[name][1] for name in deed[2:]]
        return deed[1], ("reader", joined_thing(word, readers))

    def _check_thing(self, name):
        """Raise NoThing unless name is that of a thing."""
        if name not in self:
            raise NoThing(name)

    def _check_kind(self, name, kind):
        """Raise NoThing, WrongKind unless name is that of a thing of this kind."""
        self._check_thing(name)
        if self._things[name][0] != kind:
            raise WrongKind(name)

    def _check_new(self, name):
        """Raise BadName, Held unless name is one for something new."""
        if not is_name(name):
            raise BadName(name)
        if name in self:
            raise Held(name)

    def _go_to(self, stand):
        """Undo deeds, or do them again, until so many stand."""
        while self._stand < stand:
            done = self._done[self._stand]
            self._stand += 1
            self._keep(done[1], done[3])
        while self._stand > stand:
            self._stand -= 1
            done = self._done[self._stand]
            self._keep(done[1], done[2])

    def _keep(self, name, thing):
        """This name is now that of this thing, or of none."""
        if thing is None:
            del self._things[name]
            self.names = without(self.names, name)
        else:
            self._things[name] = thing
            self.names = placed(self.names, name)

    def thing_of(self, name):
        """The web, reader or saying of this name."""
        self._check_thing(name)
        return self._things[name][1]

    def thing_kind(self, name):
        """The kind of the thing of this name."""
        self._check_thing(name)
        return self._things[name][0]

    def does_let(self, reader, web):
        """Whether the reader of this name lets the web of that name by some roll."""
        self._check_kind(reader, "reader")
        self._check_kind(web, "web")
        return lets_web(self._things[reader][1], self._things[web][1])

    def does_hold(self, saying, web):
        """Whether the saying of this name is so of the web of that name."""
        self._check_kind(saying, "saying")
        self._check_kind(web, "web")
        return holds(self._things[saying][1], self._things[web][1])

    def undo(self):
        """Undo the last deed that stands."""
        if self._stand == 0:
            raise NothingToUndo(0)
        self._go_to(self._stand - 1)

    def redo(self):
        """Do again the deed that was undone last."""
        if self._stand == len(self._done):
            raise NothingToRedo(self._stand)
        self._go_to(self._stand + 1)

    def note(self, word):
        """The word notes how many deeds stand now."""
        if not is_name(word):
            raise BadName(word)
        self._noted[word] = self._stand

    def notes(self):
        """The ascending tuple of the pairs of words and what they note."""
        return tuple([(word, self._noted[word]) for word in sorted(self._noted)])

    def back(self, word):
        """Go to where as many deeds stand as the word notes."""
        if not isinstance(word, str) or word not in self._noted:
            raise NoNote(word)
        self._go_to(self._noted[word])

    def all_deeds(self):
        """The deeds that stand, and those that were undone, the last one first."""
        deeds = [done[0] for done in self._done]
        return tuple(deeds[:self._stand]), tuple(deeds[self._stand:])


def is_deed(value):
    """Whether value is a tuple with the word of a deed and as many parts as it has."""
    if not isinstance(value, tuple) or len(value) == 0 or not isinstance(value[0], str):
        return False
    return value[0] in PARTS and len(value) == 1 + PARTS[value[0]]


def put_thing(kind, text):
    """The web, reader or saying with this text; raises BadKind."""
    if kind == "web":
        return Web(text)
    if kind == "reader":
        return Reader(text)
    if kind == "saying":
        return Saying(text)
    raise BadKind(kind)


def joined_thing(word, readers):
    """What the deed with this word makes of readers."""
    if word == "both":
        return both(readers[0], readers[1])
    if word == "either":
        return either_of(readers[0], readers[1])
    return turned(readers[0]) if word == "turned" else contrary(readers[0])


def desk_text(desk):
    """The journal of a desk."""
    standing, undone = desk.all_deeds()
    lines = [f"stand {len(standing)}"]
    lines.extend([f"note {word} {many}" for word, many in desk.notes()])
    for deed in standing + undone:
        if deed[0] == "put":
            told = deed[3].split("\n")
            lines.append(f"put {deed[1]} {deed[2]} {len(told)}")
            lines.extend(told)
        else:
            lines.append(" ".join(deed))
    return "\n".join(lines)


def read_desk(text):
    """The desk with this journal; raises BadDesk."""
    if not isinstance(text, str):
        raise BadDesk(0)
    lines = text.split("\n")
    stand = stand_line(lines[0].split(" "))
    if stand < 0:
        raise BadDesk(1)
    noted = note_lines(lines)
    desk = Desk()
    many = lead_lines(desk, lines, 1 + len(noted))
    numbers = [stand, *[told[1] for told in noted]]
    for line, number in enumerate(numbers, start=1):
        if number > many:
            raise BadDesk(line)
    # Words note how many deeds stand, so the desk goes to where so many do, by ascending numbers.
    standing = many
    for number, word in sorted([(told[1], told[0]) for told in noted]):
        standing = go_to(desk, standing, number)
        desk.note(word)
    go_to(desk, standing, stand)
    return desk


def go_to(desk, many, stand):
    """Go from where many deeds stand to where stand of them do, which is returned."""
    for _ in range(many - stand):
        desk.undo()
    for _ in range(stand - many):
        desk.redo()
    return stand


def stand_line(words):
    """The number that the first line tells; -1 if it is not as told."""
    if len(words) != 2 or words[0] != "stand":
        return -1
    return number_in(words[1])


def note_lines(lines):
    """The list of the pairs (word, number) that the lines behind the first one tell; raises BadDesk."""
    noted = []
    for number, line in enumerate(lines[1:], start=2):
        words = line.split(" ")
        if words[0] != "note":
            break
        if len(words) != 3 or not is_name(words[1]) or number_in(words[2]) < 0:
            raise BadDesk(number)
        if noted and noted[-1][0] >= words[1]:
            raise BadDesk(number)
        noted.append((words[1], number_in(words[2])))
    return noted


def lead_lines(desk, lines, at):
    """Do the deeds that the lines from this one on tell; how many they are. Raises BadDesk."""
    many = 0
    while at < len(lines):
        words = lines[at].split(" ")
        if not is_deed_line(words):
            raise BadDesk(at + 1)
        end = at + 1
        deed = tuple(words)
        if words[0] == "put":
            end += number_in(words[3])
            if end > len(lines):
                raise BadDesk(len(lines) + 1)
            deed = (*words[:3], "\n".join(lines[at + 1:end]))
        try:
            desk.lead(deed)
        except RollError:
            raise BadDesk(at + 1) from None
        at = end
        many += 1
    return many


def is_deed_line(words):
    """Whether these are the words of the first line of a deed."""
    if words[0] not in PARTS or len(words) != 1 + PARTS[words[0]]:
        return False
    if words[0] == "put":
        return is_name(words[1]) and number_in(words[3]) > 0
    return all([is_name(word) for word in words[1:]])
