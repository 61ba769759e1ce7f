"""What is promised over the whole program: its interface, one question asked by all doors, a long day at a desk."""
import importlib
import inspect
import random
import unittest

from contraryrolls import errors
from contraryrolls.contraries import contrary, no_way_reader, way_reader
from contraryrolls.desk import Desk, desk_text, read_desk
from contraryrolls.halves import halves_reader
from contraryrolls.joins import both, either_of
from contraryrolls.led import led, led_reader, led_roll
from contraryrolls.lone import lone, lone_reader, lone_roll
from contraryrolls.makings import made, Making
from contraryrolls.piles import run_pile
from contraryrolls.plays import lets_web, play, roll_of
from contraryrolls.readers import Reader
from contraryrolls.rolls import no_way_roll, way_roll, written
from contraryrolls.sayings import contrary_saying, pushed, Saying
from contraryrolls.shown import reader_of
from contraryrolls.shownrolls import roll_for, shows_saying
from contraryrolls.truths import first_parting, holds, rows_of, true_at
from contraryrolls.webs import numbered_web, Web
from tests.kinds import told
from tests.plain import drawn_web
from tests.plainsayings import plain_so

# The parameters of each function; of each class its parameters, and its properties and methods with theirs.
FUNCTIONS = {
    'webs': ['has_mark web name place', 'has_arrow web name one other', 'web_text places marks arrows', 'webs_many places marks arrows',
             'numbered_web places marks arrows number', 'web_number web', 'moved_web web order'],
    'readers': [],
    'plays': ['play reader web roll', 'lets_web reader web', 'standings_many reader web', 'within_steps reader web steps',
              'roll_of reader web', 'rolls_many reader web length'],
    'lesser': ['led_rows reader', 'lesser reader', 'same_form one other'],
    'alike': ['letting_webs reader places marks arrows', 'alike one other places marks arrows', 'opposed one other places marks arrows'],
    'joins': ['renamed reader names', 'named_anew reader pairs', 'turned reader', 'roomed reader room', 'both one other',
              'either_of one other'],
    'contraries': ['contrary reader', 'way_reader name', 'no_way_reader name'],
    'rolls': ['written reader web', 'way_roll web name', 'no_way_roll web name'],
    'sayings': ['pushed saying', 'contrary_saying saying'],
    'truths': ['holds saying web', 'true_at saying web places', 'rows_of saying web', 'first_parting one other places marks arrows'],
    'shown': ['reader_of saying'],
    'shownrolls': ['roll_for saying web', 'shows_saying saying web roll'],
    'makings': ['made making web'],
    'led': ['led making saying', 'led_reader making reader', 'led_roll making reader web'],
    'lone': ['lone web arrow', 'shows_lone web arrow value', 'lone_reader arrow word', 'lone_roll web arrow word'],
    'piles': ['run_pile reader web most'],
    'halves': ['halves_reader name'],
    'desk': ['desk_text desk', 'read_desk text'],
}
CLASSES = {
    'webs': ('Web text', 'text places marks arrows', []),
    'readers': ('Reader text', 'text room boxes rows', ['__len__']),
    'sayings': ('Saying text names', 'text names tree depth ways binders width', ['__len__']),
    'makings': ('Making text', 'text wide marks arrows', []),
    'piles': ('PileReader text', 'text room boxes rows', []),
    'desk': ('Desk', 'names', ['__len__', '__contains__ value', 'lead deed', 'thing_of name', 'thing_kind name', 'does_let reader web',
                               'does_hold saying web', 'undo', 'redo', 'note word', 'notes', 'back word', 'all_deeds']),
}
TEXTS = {'webs': 'places 2', 'readers': 'room 1\nboxes\nlet', 'sayings': '(some x (first x))', 'makings': 'wide 1',
         'piles': 'room 1\nboxes\nlet'}
ERRORS = (
    'RollError BadWeb BadNumber BadMarks BadArrows BadNames BadOrder BadReader BadRoll TooMany BadPairs TooGreat Lets NoWay HasWay '
    'BadSaying NotClosed BadPlaces NotSo BadMaking NotLed BadName BadWord NotLone NoThing WrongKind Held BadDeed BadKind NothingToUndo '
    'NothingToRedo NoNote BadDesk').split()

# A way of one arrow or more and one of none or more are the same to the last place, which is not the first one.
THERE = Saying('(some a (some b (and (first a) (last b) (way (x) (y) (arrow r x y) (a) (b)))))')
KEEPING = Making('wide 1\nmark m (x) (mark m x)\narrow r (x) (y) (arrow r x y)')
TURNING = Making('wide 1\narrow r (x) (y) (arrow r y x)')


def parameters(call):
    return list(inspect.signature(call).parameters)


class Interface(unittest.TestCase):
    def module(self, stem):
        return importlib.import_module(f'contraryrolls.{stem}')

    def test_functions(self):
        for stem, calls in FUNCTIONS.items():
            for line in calls:
                name, *names = line.split()
                call = getattr(self.module(stem), name)
                self.assertTrue(inspect.isfunction(call))
                self.assertEqual(parameters(call), names, name)
                self.assertEqual(call.__module__, f'contraryrolls.{stem}')

    def test_classes(self):
        for stem, (line, properties, methods) in CLASSES.items():
            name, *names = line.split()
            kind = getattr(self.module(stem), name)
            self.assertEqual((kind.__module__, parameters(kind)), (f'contraryrolls.{stem}', names))
            one = kind(TEXTS[stem]) if stem in TEXTS else kind()
            for word in properties.split():
                self.assertTrue(hasattr(one, word), word)
            for method in methods:
                word, *names = method.split()
                self.assertIn(word, vars(kind))
                self.assertEqual(parameters(vars(kind)[word]), ['self', *names])

    def test_errors(self):
        self.assertEqual(len(ERRORS), 33)
        for word in ERRORS:
            error = getattr(errors, word)
            self.assertEqual(error.__bases__, (ValueError if word == 'RollError' else errors.RollError,))
            value = object()
            self.assertIs(error(value).value, value)

    def test_all_errors_that_are_raised(self):
        """No error is listed that nothing raises."""
        raised = set()
        for path in sorted(set(FUNCTIONS)) + ['words', 'tokens', 'searches', 'webrows', 'ledforms']:
            source = inspect.getsource(self.module(path))
            raised |= {word for word in ERRORS if f'raise {word}(' in source}
        self.assertEqual(sorted(raised), sorted(ERRORS[1:]))

    def test_arguments_by_name_in_another_sequence(self):
        web, reader, saying = Web('places 3\nmark m 1\narrow r 0-1 1-2'), way_reader('r'), THERE
        roll = way_roll(web, 'r')
        given = {
            'has_mark': (web, 'm', 1), 'has_arrow': (web, 'r', 0, 1), 'web_text': (3, (), ()), 'webs_many': (3, ('m',), ()),
            'numbered_web': (2, ('m',), ('r',), 5), 'web_number': (web,), 'moved_web': (web, (1, 0, 2)), 'play': (reader, web, roll),
            'lets_web': (reader, web), 'standings_many': (reader, web), 'within_steps': (reader, web, 3), 'roll_of': (reader, web),
            'rolls_many': (reader, web, 2), 'led_rows': (reader,), 'lesser': (reader,), 'same_form': (reader, reader),
            'letting_webs': (reader, 2, (), ('r',)), 'alike': (reader, no_way_reader('r'), 2, (), ('r',)),
            'opposed': (reader, reader, 2, (), ('r',)), 'renamed': (reader, ('x', 'y')), 'named_anew': (reader, (('r', 's'),)),
            'turned': (reader,), 'roomed': (reader, 2), 'both': (reader, reader), 'either_of': (reader, reader),
            'contrary': (Reader('room 1\nboxes\nrefuse'),), 'way_reader': ('r',), 'no_way_reader': ('r',),
            'written': (Reader('room 1\nboxes\nrefuse'), web), 'way_roll': (web, 'r'), 'no_way_roll': (web, 'q'), 'pushed': (saying,),
            'contrary_saying': (saying,), 'holds': (saying, web), 'true_at': (Saying('(mark m x)', ('x',)), web, (1,)),
            'rows_of': (Saying('(mark m x)', ('x',)), web), 'first_parting': (saying, Saying('(some x (first x))'), 2, (), ('r',)),
            'reader_of': (saying,), 'roll_for': (saying, web), 'shows_saying': (saying, web, roll), 'made': (KEEPING, web),
            'led': (KEEPING, saying), 'led_reader': (KEEPING, reader), 'led_roll': (KEEPING, reader, web), 'lone': (web, 'r'),
            'shows_lone': (web, 'r', ('lone',)), 'lone_reader': ('r', 'way'), 'lone_roll': (web, 'r', 'way'),
            'run_pile': (halves_reader('r'), web, 50), 'halves_reader': ('r',), 'desk_text': (Desk(),)}
        for stem, calls in FUNCTIONS.items():
            for line in calls:
                name, *names = line.split()
                if name == 'read_desk':
                    self.assertEqual(desk_text(read_desk(text='stand 0')), 'stand 0')
                    continue
                call = getattr(self.module(stem), name)
                turned_about = dict(list(zip(names, given[name]))[::-1])
                self.assertEqual(call(**turned_about), call(*given[name]), name)
        self.assertEqual(Saying(names=('x',), text='(first x)'), Saying('(first x)', ('x',)))
        for stem, text in TEXTS.items():
            kind = getattr(self.module(stem), CLASSES[stem][0].split()[0])
            self.assertEqual(kind(text=text), kind(text))


class OneQuestion(unittest.TestCase):
    """Whether a way leads from place 0 to the last place, asked by all doors."""

    def lets(self, reader, web, roll):
        self.assertEqual(play(reader, web, roll), ('let', len(roll)), web.text)

    def check(self, web, so):
        self.assertIs(lets_web(way_reader('r'), web), so)
        if so:
            self.lets(way_reader('r'), web, way_roll(web, 'r'))
            self.assertEqual(told(no_way_roll, web, 'r')[0], errors.HasWay)
        else:
            self.lets(no_way_reader('r'), web, no_way_roll(web, 'r'))
            self.assertEqual(told(way_roll, web, 'r'), (errors.NoWay, None))
        self.check_sayings(web, so)
        self.assertEqual(run_pile(halves_reader('r'), web, 400000)[0], 'let' if so else 'refused')
        word, other = ('way', 'noway') if so else ('noway', 'way')
        if lone(web, 'r') == ('lone',):
            roll = lone_roll(web, 'r', word)
            self.lets(lone_reader('r', word), web, roll)
            self.assertNotEqual(play(lone_reader('r', other), web, roll)[0], 'let')
            self.assertEqual(told(lone_roll, web, 'r', other), (errors.NotSo, other))

    def check_sayings(self, web, so):
        one, other = (THERE, contrary_saying(THERE)) if so else (contrary_saying(THERE), THERE)
        roll = roll_for(one, web)
        self.assertEqual([holds(one, web), holds(other, web), holds(pushed(one), web)], [True, False, True])
        self.assertEqual([shows_saying(one, web, roll), shows_saying(other, web, roll)], [True, False])
        self.assertEqual(told(roll_for, other, web), (errors.NotSo, web))
        self.assertEqual([plain_so(one.tree, web, {}), true_at(one, web, ()), rows_of(one, web)], [True, True, ((),)])
        # Along a making that keeps the web.
        self.assertEqual(made(KEEPING, web), Web('\n'.join([web.text.split('\n')[0], *['mark m' + ''.join(
            f' {place}' for place in dict(web.marks)['m']), 'arrow r' + ''.join(f' {a}-{b}' for a, b in dict(web.arrows)['r'])]])))
        self.assertEqual([holds(led(KEEPING, one), web), holds(led(KEEPING, other), web)], [True, False])
        self.lets(reader_of(led(KEEPING, one)), web, roll_for(led(KEEPING, one), web))
        if so:
            self.lets(led_reader(KEEPING, way_reader('r')), web, led_roll(KEEPING, way_reader('r'), web))
        else:
            self.assertEqual(told(led_roll, KEEPING, way_reader('r'), web), (errors.NotSo, web))
            self.assertFalse(lets_web(led_reader(KEEPING, way_reader('r')), web))

    def test_all_webs_of_two_places(self):
        for number in range(64):
            web = numbered_web(2, ('m',), ('r',), number)
            self.check(web, (0, 1) in dict(web.arrows)['r'])

    def test_drawn_webs(self):
        draw = random.Random(1)
        found = []
        for places in (3, 4, 5, 6):
            for _ in range(12):
                web = drawn_web(draw, places)
                so = plain_so(THERE.tree, web, {})
                found.append(so)
                self.check(web, so)
        self.assertTrue(10 < sum(found) < 38)

    def test_back_and_forth(self):
        """A way there in the web is a way back in the one with all arrows turned."""
        draw = random.Random(2)
        back = Saying('(some a (some b (and (first a) (last b) (way (x) (y) (arrow r x y) (b) (a)))))')
        for _ in range(20):
            web = drawn_web(draw, draw.choice([3, 4]))
            self.assertEqual(holds(led(TURNING, back), web), holds(THERE, web))
            self.assertEqual(holds(back, made(TURNING, web)), holds(THERE, web))

    def test_no_two_readers_for_and_against(self):
        """On all small webs just one of a saying and its not, of a reader and its contrary, is let."""
        self.assertIsNone(first_parting(THERE, contrary_saying(contrary_saying(THERE)), 3, (), ('r',)))
        reader = Reader('room 1\nboxes a\ntake 1 a\narrow r a a 3\nrefuse\nlet')
        for number in range(16):
            web = numbered_web(2, (), ('r',), number)
            roll = roll_of(reader, web)
            if roll is None:
                self.assertEqual(play(contrary(reader), web, written(reader, web))[0], 'let')
            else:
                self.assertEqual(told(written, reader, web)[0], errors.Lets)
            self.assertEqual(lets_web(both(reader, way_reader('r')), web), roll is not None and lets_web(way_reader('r'), web))
            self.assertEqual(lets_web(either_of(reader, way_reader('r')), web), roll is not None or lets_web(way_reader('r'), web))


class LongDay(unittest.TestCase):
    def test_a_long_day(self):
        draw = random.Random(3)
        desk = Desk()
        desk.lead(('put', 'web', 'web', 'places 3\nmark m 1\narrow r 0-1 1-2'))
        desk.lead(('put', 'way', 'reader', way_reader('r').text))
        desk.lead(('put', 'noway', 'reader', no_way_reader('r').text))
        desk.lead(('put', 'there', 'saying', THERE.text))
        desk.lead(('put', 'shown', 'reader', reader_of(THERE).text))
        for at in range(400):
            name, other = draw.choice(desk.names), f'n{"abcdefghij"[at % 10]}{"abcdefghij"[at // 10 % 10]}'
            deed = draw.choice([('copy', name, other), ('turned', other, 'way'), ('both', other, 'way', 'shown'), ('drop', name),
                                ('either', other, 'way', 'noway'), ('put', other, 'web', drawn_web(draw, 4).text), ('contrary', other, name)])
            if name not in ('web', 'way', 'noway', 'there', 'shown') or deed[0] != 'drop':
                told(desk.lead, deed)
            if at % 30 == 20:
                desk.note(f'at{"abcdefghijklmno"[at // 30]}')
            for _ in range(draw.choice([0, 0, 0, 0, 0, 1, 2])):
                told(draw.choice([desk.undo, desk.undo, desk.redo]))
        self.assertGreater(len(desk.all_deeds()[0]), 100)
        self.assertEqual([desk.does_let('way', 'web'), desk.does_let('noway', 'web'), desk.does_hold('there', 'web'),
                          desk.does_let('shown', 'web')], [True, False, True, True])
        again = read_desk(desk_text(desk))
        self.assertEqual(desk_text(again), desk_text(desk))
        for word, number in desk.notes():
            desk.back(word)
            again.back(word)
            self.assertEqual(len(desk.all_deeds()[0]), number)
            self.assertEqual([again.names, again.all_deeds(), [again.thing_of(name) for name in again.names]],
                             [desk.names, desk.all_deeds(), [desk.thing_of(name) for name in desk.names]])

    def test_thousands_of_deeds(self):
        desk = Desk()
        for at in range(5000):
            word = ''.join('abcdefghij'[int(figure)] for figure in str(at))
            desk.lead(('put', word, 'saying', '(some x (first x))'))
            if at % 100 == 0:
                desk.note(word)
        again = read_desk(desk_text(desk))
        self.assertEqual((again.names, again.notes(), len(again)), (desk.names, desk.notes(), 5000))
        again.back('a')
        self.assertEqual(again.names, ('a',))


if __name__ == '__main__':
    unittest.main()
