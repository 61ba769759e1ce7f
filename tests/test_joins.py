import itertools
import random
import unittest

from contraryrolls import joins
from contraryrolls.errors import BadNames, BadNumber, BadPairs, TooGreat
from contraryrolls.joins import both, either_of, named_anew, renamed, roomed, turned
from contraryrolls.plays import lets_web, play, roll_of
from contraryrolls.readers import Reader
from contraryrolls.webs import Web, web_text
from tests.kinds import told, values
from tests.plain import drawn_reader, drawn_web, plain_lets, plain_play, reader_of, rolls_to, WORDS

RED = Reader('room 1\nboxes a\ntake 1 a\nmark red a 3\nrefuse\nlet')
STEP = Reader('room 1\nboxes a b\ntake 1 a\ntake 1 b\narrow to a b 4\nrefuse\nlet')
BOUNDED = ['take', 'set', 'set', 'up', 'up', 'within', 'edge', 'is', 'either', 'go', 'let', 'let', 'put', 'less']


def drawn_rolls(draw, bound, many=6):
    return [tuple(draw.randrange(draw.choice([2, bound])) for _ in range(draw.randint(0, 5))) for _ in range(many)]


class Example(unittest.TestCase):
    def test_point_7(self):
        self.assertEqual(
            [renamed(RED, ('z',)).text, named_anew(RED, (('red', 'blue'),)).rows[1], turned(STEP).rows[2]],
            ['room 1\nboxes z\ntake 1 z\nmark red z 3\nrefuse\nlet', ('mark', 'blue', 'a', 3),
             ('arrow', 'to', 'b', 'a', 4)])
        webs = [Web('places 2\n' + rest)
                for rest in ('mark red 1', 'arrow to 0-1', 'mark red 0\narrow to 1-1', 'mark blue 0')]
        self.assertEqual([[lets_web(reader, web) for web in webs] for reader in (both(RED, STEP), either_of(RED, STEP))],
                         [[False, False, True, False], [True, True, True, False]])
        count = Reader('room 1\nboxes a\nup a\nup a\nlet')
        self.assertEqual(
            [[lets_web(reader, Web('places ' + many)) for many in ('2', '3')]
             for reader in (count, roomed(count, 5), both(count, Reader('room 2\nboxes\nlet')))],
            [[False, True], [False, True], [False, True]])


class Renamed(unittest.TestCase):
    def test_to_the_letter(self):
        reader = reader_of('take 2 b | same b a 0 | less a a 1 | is a 1 0 | within 1 b 0 | edge 0 a 2 | mark b a 3 | '
                           'arrow a b a 4 | set a 0 | put a b | up b | either 0 | go 1 | let | refuse', 'a b c', 2)
        # The names of marks and arrows stay, and names are exchanged with one another at once.
        self.assertEqual(
            renamed(reader, ('b', 'a', 'x')).text,
            'room 2\nboxes b a x\ntake 2 a\nsame a b 0\nless b b 1\nis b 1 0\nwithin 1 a 0\nedge 0 b 2\nmark b b 3\n'
            'arrow a a b 4\nset b 0\nput b a\nup a\neither 0\ngo 1\nlet\nrefuse')
        self.assertEqual(renamed(reader, ('a', 'b', 'c')), reader)
        self.assertEqual(renamed(reader_of('let', '', 9), ()).text, 'room 9\nboxes\nlet')
        self.assertEqual(renamed(reader_of('up take', 'take set'), ('is', 'take')).text, 'room 1\nboxes is take\nup is')

    def test_there_and_back_and_the_same_rolls(self):
        draw = random.Random(1)
        for _ in range(200):
            reader = drawn_reader(draw, 6, draw.randint(0, 3), 1)
            names = tuple(draw.sample(['a', 'b', 'c', 'z', 'p', 'abcdefgh'], len(reader.boxes)))
            made = renamed(reader, names)
            self.assertEqual((made.boxes, made.room, len(made)), (names, reader.room, len(reader)))
            self.assertEqual(renamed(made, reader.boxes), reader)
            web = drawn_web(draw, 3)
            for roll in drawn_rolls(draw, 3):
                self.assertEqual(play(reader, web, roll), play(made, web, roll))

    def test_bad_names(self):
        for value in values() + [('a', 'b', 'c'), ('a', 'a'), ('a', 'B'), ('a', ''), ['a', 'b'], ('a', 1), ('a', None),
                                 ('a', 'abcdefghi'), 'ab', ('a', ('b',))]:
            error, kept = told(renamed, STEP, value)
            self.assertIs(error, BadNames)
            self.assertIs(kept, value)
        self.assertEqual(told(renamed, reader_of('let'), ('a',))[0], BadNames)
        self.assertEqual(told(renamed, RED, ())[0], BadNames)


class NamedAnew(unittest.TestCase):
    def test_to_the_letter(self):
        reader = reader_of('mark a a 1 | mark b b 2 | arrow a a b 3 | arrow b b a 4 | arrow c a a 0 | put a b', 'a b')
        self.assertEqual(named_anew(reader, (('a', 'b'), ('b', 'a'), ('d', 'a'))).text,
                         'room 1\nboxes a b\nmark b a 1\nmark a b 2\narrow b a b 3\narrow a b a 4\narrow c a a 0\nput a b')
        self.assertEqual(named_anew(reader, (('a', 'c'), ('b', 'c'), ('c', 'c'))).text,
                         'room 1\nboxes a b\nmark c a 1\nmark c b 2\narrow c a b 3\narrow c b a 4\narrow c a a 0\nput a b')
        self.assertEqual(named_anew(reader, ()), reader)

    def test_webs_with_other_names(self):
        draw = random.Random(2)
        for _ in range(100):
            reader = drawn_reader(draw, 6, 2, 1)
            pairs = (('m', 'q'), ('q', 'm'), ('r', 's'), ('s', 'r'))
            made = named_anew(reader, pairs)
            self.assertEqual(named_anew(made, pairs), reader)
            web = drawn_web(draw, 2, ('m', 'q'), ('r', 's'))
            (_, m), (_, q) = web.marks
            (_, r), (_, s) = web.arrows
            other = Web(web_text(2, (('m', q), ('q', m)), (('r', s), ('s', r))))
            for roll in drawn_rolls(draw, 2):
                self.assertEqual(play(made, other, roll), play(reader, web, roll))

    def test_bad_pairs(self):
        for value in values() + [(('a', 'b'), ('a', 'c')), (('a', 'b'), ('a', 'b')), (('a', 'b', 'c'),), (('a',),),
                                 [('a', 'b')], (['a', 'b'],), ('ab',), (('a', 'B'),), (('A', 'b'),), (('a', 1),), ((1, 'a'),),
                                 (('a', 'b'), None), (('', 'a'),), (('a', 'abcdefghi'),), ('a', 'b'), {'a': 'b'}, ((),)]:
            if value == ():
                continue
            error, kept = told(named_anew, RED, value)
            self.assertIs(error, BadPairs)
            self.assertIs(kept, value)


class Turned(unittest.TestCase):
    def test_to_the_letter(self):
        reader = reader_of('arrow a b c 1 | mark a b 0 | same b c 2 | arrow c a a 0 | less b c 0 | put b c', 'a b c')
        self.assertEqual(turned(reader).text,
                         'room 1\nboxes a b c\narrow a c b 1\nmark a b 0\nsame b c 2\narrow c a a 0\nless b c 0\nput b c')
        self.assertEqual(turned(RED), RED)

    def test_there_and_back_and_turned_webs(self):
        draw = random.Random(3)
        for _ in range(200):
            reader = drawn_reader(draw, 6, draw.randint(1, 3), 1)
            made = turned(reader)
            self.assertEqual(turned(made), reader)
            web = drawn_web(draw, 3)
            back = Web(web_text(3, web.marks, tuple(
                (name, tuple(sorted((other, one) for one, other in pairs))) for name, pairs in web.arrows)))
            for roll in drawn_rolls(draw, 3):
                self.assertEqual(play(made, web, roll), play(reader, back, roll))
                self.assertEqual(play(made, back, roll), play(reader, web, roll))


class Roomed(unittest.TestCase):
    def same_rolls(self, reader, room, web, rolls):
        made = roomed(reader, room)
        self.assertEqual((made.room, made.boxes), (room, reader.boxes))
        self.assertLessEqual(len(made), 4 * len(reader) + 20)
        for roll in rolls:
            result, other = plain_play(reader, web, roll), play(made, web, roll)
            self.assertEqual(result[0] == 'let', other[0] == 'let', (reader.text, roll))
            if result[0] == 'let':
                self.assertEqual(result, other)

    def test_numbers_at_the_borders_of_both_rooms(self):
        for places, room in ((2, 1), (2, 3), (3, 2), (5, 1)):
            web, bound = Web(f'places {places}'), places ** room
            for more in (room, room + 1, room + 2, 20):
                greater = places ** more
                for number in {0, 1, bound - 2, bound - 1, bound, bound + 1, greater - 1, greater, greater + 1}:
                    if number <= 999999999:
                        for rows in (f'set a {number} | let', f'set a {number} | up a | let', f'either 2 | set a {number} | let',
                                     f'set b {number} | put a b | up a | let'):
                            self.same_rolls(reader_of(rows, 'a b', room), more, web, [(), (0,), (1,)])
                    for power in range(room + 1):
                        rolls = [(number,), (number, 0), (number, 1)]
                        self.same_rolls(reader_of(f'take {power} a | let', 'a', room), more, web, rolls)
                        self.same_rolls(reader_of(f'take {power} a | up a | let', 'a', room), more, web, rolls)
                        for word in ('within', 'edge'):
                            rows = f'take {room} a | {word} {power} a 3 | refuse | let'
                            self.same_rolls(reader_of(rows, 'a', room), more, web, rolls)

    def test_counting_as_far_as_the_room_goes(self):
        for more in (2, 3, 20):
            reader = reader_of('up a | either 0 | is a 8 4 | refuse | let', 'a', 2)
            rolls = [(1,) * many + (0,) for many in range(30)]
            self.same_rolls(reader, more, Web('places 3'), rolls)

    def test_all_rolls_of_drawn_readers(self):
        draw = random.Random(4)
        let = 0
        for _ in range(400):
            room = draw.randint(1, 2)
            reader = drawn_reader(draw, draw.randint(1, 6), draw.randint(1, 2), room, draw.choice([BOUNDED, WORDS]))
            web = drawn_web(draw, 2)
            rolls = [roll for length in range(5) for roll in rolls_to(3, length)]
            self.same_rolls(reader, draw.choice([room, room + 1, room + 3, 20]), web, rolls)
            let += plain_lets(reader, web)
        self.assertGreater(let, 60)

    def test_behind_the_last_row(self):
        for row in ('set a 0', 'up a', 'put a a', 'either 0', 'is a 7 0'):
            made = roomed(reader_of(['set a 1', row], 'a', 2), 7)
            self.assertIs(lets_web(made, Web('places 2')), False)

    def test_many_rows(self):
        for row in ('set a 0', 'up a', 'let'):
            made = roomed(reader_of([row] * 9000, 'a'), 20)
            self.assertLessEqual(len(made), 36020)

    def test_bad_numbers(self):
        reader = reader_of('let', '', 3)
        for value in values() + [2, 21, 3.0]:
            if type(value) is int and 3 <= value <= 20:
                continue
            error, kept = told(roomed, reader, value)
            self.assertIs(error, BadNumber)
            self.assertIs(kept, value)
        self.assertEqual([roomed(reader, room).room for room in (3, 4, 20)], [3, 4, 20])


class Joined(unittest.TestCase):
    def joined(self, one, other):
        """Both joins, their bounds having been looked at."""
        made = both(one, other), either_of(one, other)
        for reader in made:
            self.assertEqual(reader.room, max(one.room, other.room))
            self.assertLessEqual(len(reader.boxes), len(one.boxes) + len(other.boxes) + 4)
            self.assertLessEqual(len(reader), 4 * (len(one) + len(other)) + 20)
        return made

    def check(self, one, other, webs):
        made = self.joined(one, other)
        for web in webs:
            first, second = plain_lets(one, web), plain_lets(other, web)
            self.assertEqual([lets_web(reader, web) for reader in made], [first and second, first or second],
                             (one.text, other.text, web.text))
            for reader in made:
                roll = roll_of(reader, web)
                if roll is not None:
                    self.assertEqual(plain_play(reader, web, roll), ('let', len(roll)))

    def test_drawn_readers_of_unlike_rooms(self):
        draw = random.Random(5)
        for _ in range(300):
            one, other = [drawn_reader(draw, draw.randint(1, 6), draw.randint(0, 2), draw.randint(1, 2),
                                       draw.choice([BOUNDED, WORDS])) for _ in range(2)]
            self.check(one, other, [drawn_web(draw, 2) for _ in range(2)])

    def test_itself_and_boxes_with_the_same_names(self):
        webs = [Web('places 2\n' + rest) for rest in ('mark red 1', 'mark red', 'mark red 0 1\narrow to 1-0')]
        for reader in (RED, STEP, reader_of('let'), reader_of('refuse')):
            self.check(reader, reader, webs)
        for one, other in itertools.product((RED, STEP), repeat=2):
            self.check(one, other, webs)
        # What one leaves in its boxes does not show in those of the other.
        self.check(reader_of('up a | let', 'a'), reader_of('is a 0 2 | refuse | let', 'a'), webs)
        self.check(reader_of('up b | up a | let', 'a b'), reader_of('same a b 2 | refuse | is b 0 4 | refuse | let', 'b a'), webs)

    def test_behind_the_last_row_rounds_and_early_refusals(self):
        web = [Web('places 2\nmark red 0')]
        readers = [reader_of(rows, 'a') for rows in ('up a', 'go 0', 'refuse | let', 'either 0', 'let | up a', 'go 1 | set a 1',
                                                     'up a | up a | let', 'set a 2 | let', 'take 0 a | let', 'either 0 | let')]
        for one, other in itertools.product(readers, repeat=2):
            self.check(one, other, web)

    def test_where_the_room_of_one_is_less(self):
        webs = [Web('places 2'), Web('places 3'), Web('places 4'), Web('places 60')]
        for rows in ('up a | up a | let', 'set a 2 | let', 'set a 3 | let', 'up a | up a | up a | let', 'set a 59 | up a | let'):
            for other in (reader_of('let', '', 2), reader_of('refuse', '', 20), reader_of('take 2 a | is a 8 3 | refuse | let', 'a', 2)):
                one = reader_of(rows, 'a')
                lets = [(plain_lets(one, web), lets_web(other, web)) for web in webs]
                for first, second in ((one, other), (other, one)):
                    made = self.joined(first, second)
                    self.assertEqual([lets_web(made[0], web) for web in webs], [a and b for a, b in lets])
                    self.assertEqual([lets_web(made[1], web) for web in webs], [a or b for a, b in lets])

    def many_boxes(self, many, first='a'):
        return ' '.join([first + one + other for one in 'abcdefghij' for other in 'abcdefghijkl'][:many])

    def test_many_boxes_and_rows(self):
        one = reader_of(['up aaa'] * 2449 + ['let'], self.many_boxes(55), 2)
        other = reader_of(['set aab 1'] * 2449 + ['let'], self.many_boxes(55), 3)
        self.assertEqual((len(one) + len(other), len(one.boxes) + len(other.boxes)), (4900, 110))
        made = self.joined(one, other)
        self.assertEqual([lets_web(reader, Web('places 50')) for reader in made], [True, True])
        self.assertEqual([lets_web(reader, Web('places 49')) for reader in made], [False, True])
        made = self.joined(other, one)
        self.assertEqual([lets_web(reader, Web('places 49')) for reader in made], [False, True])
        self.assertEqual([lets_web(reader, Web('places 50')) for reader in made], [True, True])

    def test_too_great(self):
        boxes = [reader_of('let', self.many_boxes(many)) for many in (0, 1, 54, 55, 56, 110, 111, 120)]
        for one, other in itertools.product(boxes, repeat=2):
            many = len(one.boxes) + len(other.boxes)
            for join in (both, either_of):
                if many > 110:
                    self.assertEqual(told(join, one, other), (TooGreat, many))
                else:
                    self.assertIsNone(told(join, one, other)[0])
        rows = [reader_of(['let'] * many) for many in (1, 2, 2450, 2451, 4899, 4900, 40000)]
        for one, other in itertools.product(rows, repeat=2):
            many = len(one) + len(other)
            for join in (both, either_of):
                if many > 4900:
                    self.assertEqual(told(join, one, other), (TooGreat, many))
                else:
                    self.assertIsNone(told(join, one, other)[0])
        # Boxes are told ahead of rows.
        one, other = reader_of(['let'] * 4000, self.many_boxes(60)), reader_of(['let'] * 4000, self.many_boxes(51, 'b'))
        for join in (both, either_of):
            self.assertEqual(told(join, one, other), (TooGreat, 111))


class Calls(unittest.TestCase):
    def test_by_names_and_in_this_file(self):
        self.assertEqual(renamed(names=('z',), reader=RED), renamed(RED, ('z',)))
        self.assertEqual(named_anew(pairs=(('red', 'q'),), reader=RED), named_anew(RED, (('red', 'q'),)))
        self.assertEqual(turned(reader=STEP), turned(STEP))
        self.assertEqual(roomed(room=4, reader=STEP), roomed(STEP, 4))
        self.assertEqual(both(other=RED, one=STEP), both(STEP, RED))
        self.assertEqual(either_of(other=RED, one=STEP), either_of(STEP, RED))
        for call in (renamed, named_anew, turned, roomed, both, either_of):
            self.assertEqual(call.__module__, 'contraryrolls.joins')
            self.assertIs(getattr(joins, call.__name__), call)

    def test_unchanged_arguments_and_equal_calls(self):
        red, step = Reader(RED.text), Reader(STEP.text)
        for join in (both, either_of):
            self.assertEqual(join(RED, STEP), join(red, step))
            self.assertIs(type(join(RED, STEP)), Reader)
        self.assertEqual(roomed(RED, 5), roomed(red, 5))
        self.assertEqual([(reader.text, reader.room, reader.boxes, reader.rows) for reader in (RED, STEP)],
                         [(reader.text, reader.room, reader.boxes, reader.rows) for reader in (red, step)])


if __name__ == '__main__':
    unittest.main()
