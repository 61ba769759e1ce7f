import random
import unittest

from contraryrolls.contraries import contrary
from contraryrolls.desk import Desk, desk_text, read_desk
from contraryrolls.errors import (
    BadDeed, BadDesk, BadKind, BadName, BadReader, BadSaying, BadWeb, Held, NoNote, NoThing, NothingToRedo, NothingToUndo,
    RollError, TooGreat, TooMany, WrongKind)
from contraryrolls.joins import both, either_of, turned
from contraryrolls.readers import Reader
from contraryrolls.sayings import Saying
from contraryrolls.webs import Web
from tests.kinds import told, values

WEB = 'places 2\nmark red 1'
RED = 'room 1\nboxes a\ntake 1 a\nmark red a 3\nrefuse\nlet'
STEP = 'room 1\nboxes a b\ntake 1 a\ntake 1 b\narrow to a b 4\nrefuse\nlet'
SOME = '(some x (mark red x))'
GREAT = 'room 1\nboxes\n' + '\n'.join(['refuse'] * 13)
PUTS = [('put', 'w', 'web', WEB), ('put', 'r', 'reader', RED), ('put', 's', 'saying', SOME), ('put', 'step', 'reader', STEP)]
DEEDS = [('put', 'n', 'web', WEB), ('drop', 'r'), ('copy', 'w', 'n'), ('both', 'n', 'r', 'step'), ('either', 'n', 'step', 'r'),
         ('turned', 'n', 'step'), ('contrary', 'n', 'r')]


def led(*deeds):
    desk = Desk()
    for deed in deeds:
        desk.lead(deed)
    return desk


def state(desk):
    """All that a desk tells, by which two desks can be told apart."""
    things = tuple((name, desk.thing_kind(name), desk.thing_of(name).text) for name in desk.names)
    return things, len(desk), desk.notes(), desk.all_deeds(), desk_text(desk)


def things(desk):
    return state(desk)[0]


class Example(unittest.TestCase):
    def test_point_14(self):
        desk = Desk()
        self.assertEqual([desk.lead(('put', 'w', 'web', 'places 2\nmark red 1')), desk.lead(('put', 'r', 'reader', RED))], [None, None])
        self.assertEqual([desk.lead(('contrary', 'n', 'r')), desk.names, desk.does_let('r', 'w'), desk.thing_kind('n')],
                         [None, ('n', 'r', 'w'), True, 'reader'])
        self.assertEqual([desk.note('here'), desk.undo(), desk.names, desk.all_deeds()[1], desk.back('here'), desk.notes()],
                         [None, None, ('r', 'w'), (('contrary', 'n', 'r'),), None, (('here', 3),)])
        self.assertEqual(desk_text(desk).split('\n')[:5], ['stand 3', 'note here 3', 'put w web 2', 'places 2', 'mark red 1'])
        self.assertEqual([desk_text(read_desk(desk_text(desk))) == desk_text(desk), desk_text(desk).split('\n')[-1], desk_text(Desk())],
                         [True, 'contrary n r', 'stand 0'])


class Deeds(unittest.TestCase):
    def test_a_new_desk(self):
        desk = Desk()
        self.assertEqual((desk.names, len(desk), 'w' in desk, desk.notes(), desk.all_deeds()), ((), 0, False, (), ((), ())))

    def test_each_deed(self):
        red, step = Reader(RED), Reader(STEP)
        right = [Web(WEB), None, Web(WEB), both(red, step), either_of(step, red), turned(step), contrary(red)]
        for deed, thing in zip(DEEDS, right):
            desk = led(*PUTS)
            before = things(desk)
            self.assertIsNone(desk.lead(deed))
            if thing is None:
                self.assertEqual((desk.names, len(desk), 'r' in desk), (('s', 'step', 'w'), 3, False))
                self.assertEqual(told(desk.thing_of, 'r'), (NoThing, 'r'))
            else:
                self.assertEqual((desk.names, len(desk), 'n' in desk), (('n', 'r', 's', 'step', 'w'), 5, True))
                self.assertEqual((desk.thing_of('n'), desk.thing_kind('n')), (thing, 'web' if isinstance(thing, Web) else 'reader'))
            behind = things(desk)
            self.assertIsNone(desk.undo())
            self.assertEqual((things(desk), desk.all_deeds()), (before, (tuple(PUTS), (deed,))))
            self.assertIsNone(desk.redo())
            self.assertEqual((things(desk), desk.all_deeds()), (behind, (tuple(PUTS) + (deed,), ())))

    def test_what_is_asked(self):
        desk = led(*PUTS, ('put', 'v', 'web', 'places 2\nmark red'))
        self.assertEqual([desk.thing_kind(name) for name in desk.names], ['reader', 'saying', 'reader', 'web', 'web'])
        self.assertEqual([desk.thing_of(name) for name in 'wrs'], [Web(WEB), Reader(RED), Saying(SOME)])
        self.assertIs(desk.does_let('r', 'w'), True)
        self.assertIs(desk.does_let('r', 'v'), False)
        self.assertIs(desk.does_hold('s', 'w'), True)
        self.assertIs(desk.does_hold('s', 'v'), False)
        for value in values():
            self.assertIs(value in desk, False)
            for call in (desk.thing_of, desk.thing_kind, lambda name: desk.does_let(name, 's'), lambda name: desk.does_hold(name, 0),
                         lambda name: desk.does_let('r', name), lambda name: desk.does_hold('s', name)):
                error, found = told(call, value)
                self.assertIs(error, NoThing)
                self.assertIs(found, value)
        for call, error in ((lambda: desk.does_let('w', 'zz'), (WrongKind, 'w')), (lambda: desk.does_let('s', 's'), (WrongKind, 's')),
                            (lambda: desk.does_let('r', 'r'), (WrongKind, 'r')), (lambda: desk.does_hold('w', 'zz'), (WrongKind, 'w')),
                            (lambda: desk.does_hold('s', 's'), (WrongKind, 's')), (lambda: desk.does_let('zz', 'zy'), (NoThing, 'zz'))):
            self.assertEqual(told(call), error)

    def test_too_many_standings(self):
        desk = led(('put', 'w', 'web', 'places 60'), ('put', 'r', 'reader', 'room 3\nboxes a\ntake 3 a\nlet'))
        self.assertEqual(told(desk.does_let, 'r', 'w'), (TooMany, 100000))

    def test_the_order_of_names(self):
        draw = random.Random(1)
        desk, held = Desk(), set()
        names = [f'{one}{other}' for one in 'abc' for other in ('', 'a', 'zz', 'm', 'bcdefgh')]
        for _ in range(300):
            name = draw.choice(names)
            desk.lead(('drop', name) if name in held else ('put', name, 'web', WEB))
            held ^= {name}
            self.assertEqual((desk.names, type(desk.names)), (tuple(sorted(held)), tuple))

    def test_no_deeds(self):
        desk = led(*PUTS)
        before = state(desk)
        wrong = [(), ('put',), ('put', 'a'), ('put', 'a', 'web'), ('put', 'a', 'web', WEB, 1), ('drop',), ('drop', 'r', 'w'), ('copy', 'r'),
                 ('copy', 'r', 'a', 'b'), ('both', 'a', 'r'), ('both', 'a', 'r', 'r', 'r'), ('either', 'a', 'r'), ('turned', 'a'),
                 ('turned', 'a', 'r', 'r'), ('contrary', 'a'), ('contrary', 'a', 'r', 'r'), ('Put', 'a', 'web', WEB), ('undo', 'a'),
                 ['drop', 'r'], ('drop r',), (True, 'r'), (0, 1), (('drop',), 'r'), (['drop'], 'r'), ({}, 1), 'drop', ('either_of', 'a', 'r', 'r')]
        for value in wrong + values():
            error, found = told(desk.lead, value)
            self.assertIs(error, BadDeed)
            self.assertIs(found, value)
            self.assertEqual(state(desk), before)

    def test_what_is_refused(self):
        """Several things wrong at once are told in their order, and nothing is changed."""
        desk = led(*PUTS, ('put', 'great', 'reader', GREAT))
        desk.note('a')
        desk.undo()
        desk.redo()
        before = state(desk)
        for deed, error in (
                (('drop', 'no'), (NoThing, 'no')), (('drop', 'A'), (NoThing, 'A')),
                (('copy', 'no', 'A'), (NoThing, 'no')), (('copy', 'r', 'A'), (BadName, 'A')), (('copy', 'r', 'w'), (Held, 'w')),
                (('copy', 'r', 'r'), (Held, 'r')), (('copy', 'r', 'abcdefghi'), (BadName, 'abcdefghi')),
                (('both', 'A', 'no', 'w'), (BadName, 'A')), (('both', 'r', 'no', 'w'), (Held, 'r')), (('both', 'n', 'no', 'w'), (NoThing, 'no')),
                (('both', 'n', 'w', 'no'), (WrongKind, 'w')), (('both', 'n', 'r', 'no'), (NoThing, 'no')), (('both', 'n', 'r', 's'), (WrongKind, 's')),
                (('either', 'A', 'no', 'w'), (BadName, 'A')), (('either', 'w', 'no', 'w'), (Held, 'w')), (('either', 'n', 'no', 'w'), (NoThing, 'no')),
                (('either', 'n', 's', 'no'), (WrongKind, 's')), (('either', 'n', 'r', 'n'), (NoThing, 'n')), (('either', 'n', 'r', 'w'), (WrongKind, 'w')),
                (('turned', 'A', 'no'), (BadName, 'A')), (('turned', 's', 'no'), (Held, 's')), (('turned', 'n', 'n'), (NoThing, 'n')),
                (('turned', 'n', 'w'), (WrongKind, 'w')), (('contrary', '', 'no'), (BadName, '')), (('contrary', 'r', 'no'), (Held, 'r')),
                (('contrary', 'n', 'no'), (NoThing, 'no')), (('contrary', 'n', 's'), (WrongKind, 's')),
                (('contrary', 'n', 'great'), (TooGreat, 'rows')),
                (('put', 'A', 'no', 0), (BadName, 'A')), (('put', 'r', 'no', 0), (Held, 'r')), (('put', 'n', 'no', 0), (BadKind, 'no')),
                (('put', 'n', 'Web', WEB), (BadKind, 'Web')), (('put', 'n', 'web', WEB + '\n'), (BadWeb, 3)), (('put', 'n', 'web', None), (BadWeb, 0)),
                (('put', 'n', 'reader', WEB), (BadReader, 1)), (('put', 'n', 'reader', ('a',)), (BadReader, 0)),
                (('put', 'n', 'saying', '(first x)'), (BadSaying, 1)), (('put', 'n', 'saying', 1), (BadSaying, -1))):
            self.assertEqual(told(desk.lead, deed), error, deed)
            self.assertEqual(state(desk), before)
        rows = '\n'.join(['refuse'] * 4888)
        desk.lead(('put', 'rows', 'reader', f'room 1\nboxes\n{rows}'))
        self.assertEqual(told(desk.lead, ('both', 'n', 'rows', 'rows')), (TooGreat, 9776))
        self.assertEqual(told(desk.lead, ('either', 'n', 'great', 'rows')), (TooGreat, 4901))
        forty = '(and ' + ' '.join(['(some x (first x))'] * 200) + ')'
        self.assertEqual(told(desk.lead, ('put', 'n', 'saying', forty)), (TooGreat, 400))

    def test_the_very_value(self):
        desk = led(*PUTS)
        for value in values():
            for deed, error in ((('drop', value), NoThing), (('copy', value, 0), NoThing), (('put', 'n', value, 0), BadKind),
                                (('both', 'n', value, 0), NoThing), (('either', 'n', 'r', value), NoThing), (('turned', 'n', value), NoThing),
                                (('contrary', 'n', value), NoThing)):
                kind, found = told(desk.lead, deed)
                self.assertIs(kind, error)
                self.assertIs(found, value)
            for deed in (('put', value, 'web', WEB), ('copy', 'r', value), ('both', value, 'r', 'r'), ('either', value, 'r', 'r'),
                         ('turned', value, 'r'), ('contrary', value, 'r')):
                if not (isinstance(value, str) and value in ('a', 'red')):
                    kind, found = told(desk.lead, deed)
                    self.assertIs(kind, BadName)
                    self.assertIs(found, value)
        self.assertEqual(desk.all_deeds(), (tuple(PUTS), ()))


class Journals(unittest.TestCase):
    def test_undo_and_redo(self):
        desk = Desk()
        self.assertEqual(told(desk.undo), (NothingToUndo, 0))
        self.assertEqual(told(desk.redo), (NothingToRedo, 0))
        states = [things(desk)]
        for deed in PUTS:
            desk.lead(deed)
            states.append(things(desk))
            self.assertEqual(told(desk.redo), (NothingToRedo, len(states) - 1))
        for many in range(3, -1, -1):
            desk.undo()
            self.assertEqual((things(desk), desk.all_deeds()), (states[many], (tuple(PUTS[:many]), tuple(PUTS[many:]))))
        self.assertEqual(told(desk.undo), (NothingToUndo, 0))
        for many in range(1, 5):
            desk.redo()
            self.assertEqual((things(desk), desk.all_deeds()), (states[many], (tuple(PUTS[:many]), tuple(PUTS[many:]))))

    def test_undone_deeds_are_forgotten(self):
        desk = led(*PUTS)
        desk.undo()
        desk.undo()
        self.assertEqual(told(desk.lead, ('drop', 'step'))[0], NoThing)
        self.assertEqual(desk.all_deeds()[1], tuple(PUTS[2:]))
        desk.lead(('drop', 'w'))
        self.assertEqual(desk.all_deeds(), (tuple(PUTS[:2]) + (('drop', 'w'),), ()))
        self.assertEqual(told(desk.redo), (NothingToRedo, 3))

    def test_notes(self):
        desk = Desk()
        self.assertIsNone(desk.note('none'))
        for deed, word in zip(PUTS, ('one', 'two', 'three', 'four')):
            desk.lead(deed)
            desk.note(word)
        self.assertEqual(desk.notes(), (('four', 4), ('none', 0), ('one', 1), ('three', 3), ('two', 2)))
        self.assertIsNone(desk.back('one'))
        self.assertEqual(desk.names, ('w',))
        desk.back('three')
        self.assertEqual((desk.names, desk.all_deeds()), (('r', 's', 'w'), (tuple(PUTS[:3]), tuple(PUTS[3:]))))
        desk.note('one')
        self.assertEqual(desk.notes(), (('four', 4), ('none', 0), ('one', 3), ('three', 3), ('two', 2)))
        desk.back('none')
        self.assertEqual(len(desk), 0)
        desk.back('two')
        # Notes for more deeds than stand are forgotten, those for as many are not.
        desk.lead(('put', 'v', 'web', WEB))
        self.assertEqual(desk.notes(), (('none', 0), ('two', 2)))
        desk.back('two')
        self.assertEqual((desk.names, told(desk.back, 'four')), (('r', 'w'), (NoNote, 'four')))

    def test_notes_that_are_refused(self):
        desk = led(*PUTS)
        desk.note('here')
        for value in values() + ['A', 'abcdefghi']:
            if not (isinstance(value, str) and value in ('a', 'red')):
                for call, error in ((desk.note, BadName), (desk.back, NoNote)):
                    kind, found = told(call, value)
                    self.assertIs(kind, error)
                    self.assertIs(found, value)
        self.assertEqual(told(desk.back, 'there'), (NoNote, 'there'))
        self.assertEqual((desk.notes(), len(desk)), ((('here', 4),), 4))

    def test_a_deed_that_is_refused_forgets_nothing(self):
        desk = led(*PUTS)
        desk.note('far')
        desk.undo()
        before = state(desk)
        for deed in (('drop', 'no'), ('put', 'w', 'web', WEB), ('put', 'n', 'web', ''), 0):
            self.assertIsNotNone(told(desk.lead, deed)[0])
            self.assertEqual(state(desk), before)

    def test_dropped_and_put_anew(self):
        desk = led(PUTS[0], ('drop', 'w'), ('put', 'w', 'saying', SOME), ('copy', 'w', 'v'), ('drop', 'w'))
        self.assertEqual((desk.names, desk.thing_kind('v')), (('v',), 'saying'))
        for kinds in ({'v': 'saying', 'w': 'saying'}, {'w': 'saying'}, {}, {'w': 'web'}, {}):
            desk.undo()
            self.assertEqual({name: desk.thing_kind(name) for name in desk.names}, kinds)
        for _ in range(5):
            desk.redo()
        self.assertEqual((desk.names, desk.thing_kind('v')), (('v',), 'saying'))

    def test_against_a_list_of_states(self):
        """Whatever is done, all is as if the deeds that stand had been done on a new desk."""
        draw = random.Random(2)
        for _ in range(30):
            desk = Desk()
            for _ in range(60):
                names = list(desk.names) + ['n', 'x', 'A']
                name, one, other = [draw.choice(names) for _ in range(3)]
                word = draw.choice(['put', 'put', 'drop', 'copy', 'both', 'either', 'turned', 'undo', 'undo', 'redo', 'note', 'back'])
                call = {'put': lambda: desk.lead(draw.choice(PUTS[:3])[:1] + (draw.choice('abcd'),) + draw.choice(PUTS)[2:]),
                        'drop': lambda: desk.lead(('drop', name)), 'copy': lambda: desk.lead(('copy', name, draw.choice('efg'))),
                        'both': lambda: desk.lead(('both', draw.choice('hi'), one, other)),
                        'either': lambda: desk.lead(('either', draw.choice('hi'), one, other)),
                        'turned': lambda: desk.lead(('turned', draw.choice('jk'), one)), 'undo': desk.undo, 'redo': desk.redo,
                        'note': lambda: desk.note(draw.choice('pq')), 'back': lambda: desk.back(draw.choice('pq'))}[word]
                told(call)
                self.assertEqual(things(desk), things(led(*desk.all_deeds()[0])))
            self.assertEqual(state(read_desk(desk_text(desk))), state(desk))


class Texts(unittest.TestCase):
    def check(self, desk):
        again = read_desk(desk_text(desk))
        self.assertEqual(state(again), state(desk))
        return again

    def test_there_and_back(self):
        self.check(Desk())
        desk = led(*PUTS)
        for deed in DEEDS[2:]:
            desk.lead((deed[0], *[f'n{deed[0]}'[:8] if part == 'n' else part for part in deed[1:]]))
        for word in ('stand', 'note', 'put', 'a'):
            desk.note(word)
            for _ in range(2):
                desk.undo()
        again = self.check(desk)
        for one in (desk, again):
            one.back('stand')
            one.undo()
            one.redo()
        self.assertEqual(state(again), state(desk))
        self.check(led(('put', 'r', 'reader', '\n'.join(['room 1', 'boxes'] + ['let'] * 3000))))

    def test_the_text(self):
        desk = led(*PUTS[:3], ('copy', 'w', 'v'), ('drop', 'w'), ('both', 'b', 'r', 'r'), ('either', 'e', 'b', 'r'), ('turned', 't', 'e'))
        desk.note('z')
        desk.undo()
        desk.note('b')
        desk.undo()
        self.assertEqual(desk_text(desk), '\n'.join([
            'stand 6', 'note b 7', 'note z 8', 'put w web 2', WEB, 'put r reader 6', RED, 'put s saying 1', SOME, 'copy w v', 'drop w',
            'both b r r', 'either e b r', 'turned t e']))

    def test_no_strings(self):
        for value in values():
            if not isinstance(value, str):
                self.assertEqual(told(read_desk, value), (BadDesk, 0))

    LINES = ['stand 2', 'note a 1', 'note b 3', 'put w web 2', 'places 2', 'mark red 1', 'copy w v', 'drop w']

    def test_the_lines_are_right(self):
        desk = read_desk('\n'.join(self.LINES))
        self.assertEqual((desk.names, desk.notes(), desk.all_deeds()[1]), (('v', 'w'), (('a', 1), ('b', 3)), (('drop', 'w'),)))

    def spoilt(self, number, *lines):
        """What is raised if the line with this number is exchanged for these."""
        return told(read_desk, '\n'.join(self.LINES[:number - 1] + list(lines) + self.LINES[number:]))

    def test_spoilt_first_line(self):
        for line in ('', 'stand', 'stand ', 'stand x', 'stand -1', 'stand 01', 'stand 1 1', 'stand  1', ' stand 1', 'Stand 1', 'note a 1', 'stand 1.',
                     'stand 1234567890', 'drop w', 'stand True'):
            self.assertEqual(self.spoilt(1, line), (BadDesk, 1), line)
            self.assertEqual(told(read_desk, line), (BadDesk, 1), line)
            self.assertEqual(self.spoilt(1, line, 'what'), (BadDesk, 1), line)
        self.assertIsNone(self.spoilt(1, 'stand 0')[0])
        self.assertIsNone(self.spoilt(1, 'stand 3')[0])

    def test_spoilt_notes(self):
        for line in ('note', 'note a', 'note b 1 2', 'note B 1', 'note b x', 'note b -1', 'note b 01', 'note  b 1', 'note b 1 ', 'note a 1', 'note',
                     'note abcdefghi 1', 'note b 1234567890', 'Note b 1', ' note b 1', '', 'note bb  1'):
            self.assertEqual(self.spoilt(3, line), (BadDesk, 3), line)
        self.assertEqual(self.spoilt(2, 'note c 1'), (BadDesk, 3))
        self.assertEqual(self.spoilt(2, 'note b 1'), (BadDesk, 3))
        self.assertEqual(self.spoilt(3, 'note c 1', 'note b 1'), (BadDesk, 4))
        self.assertEqual(self.spoilt(6, 'mark red 1', 'note c 1'), (BadDesk, 7))
        self.assertIsNone(self.spoilt(2)[0])

    def test_spoilt_deeds(self):
        for line in ('', 'drop', 'drop  w', 'drop W', 'drop w w', ' drop w', 'drop w ', 'copy w', 'copy w W', 'copy w v v', 'both a v', 'both a v v v',
                     'either a v', 'either A v v', 'turned a', 'turned a v v', 'contrary', 'contrary a V', 'undo', 'stand 1', 'note c 1', 'put', 'put a',
                     'put a web', 'put a web 0', 'put a web -1', 'put a web 01', 'put a web x', 'put A web 1', 'put a web 1 1', 'put  web 1',
                     'put abcdefghi web 1', 'put a web 1234567890', 'Drop w', 'drop 1'):
            for at in (7, 8):
                self.assertEqual(self.spoilt(at, line), (BadDesk, at), line)
                self.assertEqual(self.spoilt(at, line, 'what'), (BadDesk, at), line)
            self.assertEqual(told(read_desk, '\n'.join(self.LINES + [line])), (BadDesk, 9), line)

    def test_deeds_that_are_refused(self):
        for line in ('drop v', 'copy v x', 'copy w w', 'both a w w', 'either a w w', 'turned a w', 'contrary a no', 'turned w w', 'both w v v'):
            self.assertEqual(self.spoilt(7, line), (BadDesk, 7), line)
            self.assertEqual(self.spoilt(7, line, ''), (BadDesk, 7), line)
        for first, number in (('put w Web 2', 4), ('put w reader 2', 4), ('put w saying 2', 4), ('put w  2', 4), ('put w web 1', 6), ('put w web 3', 4)):
            self.assertEqual(self.spoilt(4, first), (BadDesk, number), first)
        self.assertEqual(self.spoilt(6, 'mark red 2'), (BadDesk, 4))
        self.assertEqual(self.spoilt(6, ''), (BadDesk, 4))
        self.assertEqual(self.spoilt(7, 'put w web 1', 'places 2'), (BadDesk, 7))
        self.assertEqual(told(read_desk, 'stand 1\nput w web 3\nplaces 2\nmark red 1\n'), (BadDesk, 2))
        self.assertEqual(told(read_desk, 'stand 1\nput r reader 15\n' + GREAT + '\ncontrary n r'), (BadDesk, 18))

    def test_lines_that_are_lacking(self):
        """Whatever else would be refused of such a deed."""
        for first in ('put x web 2', 'put x web 99', 'put x no 2', 'put x  2', 'put w web 2', 'put v reader 2', 'put x web 999999999'):
            self.assertEqual(told(read_desk, '\n'.join(self.LINES[:7] + [first, 'places 2'])), (BadDesk, 10), first)
            self.assertEqual(told(read_desk, '\n'.join(self.LINES[:7] + [first])), (BadDesk, 9), first)
        self.assertEqual(told(read_desk, '\n'.join(self.LINES[:7] + ['put X web 2', 'places 2'])), (BadDesk, 8))
        self.assertEqual(told(read_desk, 'stand 1\nput w web 1'), (BadDesk, 3))
        self.assertEqual(told(read_desk, 'stand 0\ndrop w\nput w web 9'), (BadDesk, 2))

    def test_numbers_that_are_too_great(self):
        """They are told only if all else can stand, that of stand first."""
        self.assertEqual(self.spoilt(1, 'stand 4'), (BadDesk, 1))
        self.assertEqual(self.spoilt(2, 'note a 4'), (BadDesk, 2))
        self.assertEqual(self.spoilt(3, 'note b 4'), (BadDesk, 3))
        self.assertEqual(self.spoilt(2, 'note a 4', 'note aa 5'), (BadDesk, 2))
        self.assertEqual(told(read_desk, '\n'.join(['stand 4', 'note a 9', *self.LINES[2:]])), (BadDesk, 1))
        self.assertEqual(told(read_desk, '\n'.join(['stand 4', 'note a 9', *self.LINES[2:], 'drop w'])), (BadDesk, 9))
        self.assertEqual(told(read_desk, '\n'.join(['stand 999999999', 'note a 9', *self.LINES[2:], ''])), (BadDesk, 9))
        self.assertEqual(told(read_desk, '\n'.join(['stand 4', *self.LINES[1:], 'put x web 2'])), (BadDesk, 10))
        self.assertEqual(told(read_desk, 'stand 1'), (BadDesk, 1))
        self.assertEqual(told(read_desk, 'stand 0\nnote a 1'), (BadDesk, 2))
        self.assertEqual(told(read_desk, 'stand 0\n'), (BadDesk, 2))

    def test_every_line_left_out(self):
        """A text without one of its lines is right again, or its first wrong line is told by a plain reading."""
        self.assertEqual(told(read_desk, 'stand 1\ndrop w'), (BadDesk, 2))
        for at, number in ((1, 1), (4, 4), (5, 4), (6, 4), (7, 3), (8, 3)):
            self.assertEqual(self.spoilt(at), (BadDesk, number), at)
        for at in (2, 3):
            self.assertIsNone(self.spoilt(at)[0])

    def test_arguments_by_name(self):
        desk = Desk()
        desk.lead(deed=PUTS[0])
        desk.lead(deed=PUTS[1])
        desk.lead(deed=PUTS[2])
        desk.note(word='a')
        desk.back(word='a')
        self.assertEqual((desk.thing_of(name='w'), desk.thing_kind(name='w')), (Web(WEB), 'web'))
        self.assertEqual((desk.does_let(web='w', reader='r'), desk.does_hold(web='w', saying='s')), (True, True))
        self.assertEqual(desk_text(desk=desk), desk_text(read_desk(text=desk_text(desk))))
        self.assertTrue(issubclass(BadDesk, RollError))


if __name__ == '__main__':
    unittest.main()
