import itertools
import random
import unittest
from unittest import mock

from contraryrolls import contraries
from contraryrolls.contraries import contrary, no_way_reader, way_reader
from contraryrolls.errors import BadName, TooGreat, TooMany
from contraryrolls.plays import lets_web, play, roll_of, standings_many
from contraryrolls.readers import Reader
from contraryrolls.rolls import no_way_roll, way_roll, written
from contraryrolls.webs import numbered_web, Web, webs_many
from tests.kinds import told, values
from tests.plain import drawn_reader, drawn_web, plain_lets, reader_of, WORDS

RING, LINE = Web('places 2\narrow r 1-1'), Web('places 2\narrow r 0-1')
WIDE = Web('places 4\nmark m 1\narrow r 0-1 1-2 3-3')
TURNS = ['take', 'either', 'either', 'set', 'up', 'put', 'less', 'is', 'mark', 'go', 'refuse', 'let']

# Readers that could be taken for other ones, with their boxes and room.
TRAPS = [
    # Numbers that grow too great for the room are refused, wherever the contrary has more room.
    ('up a | up a | up a | let', 'a', 1), ('up a | up a | let', 'a', 1), ('set a 2 | let', 'a', 1),
    ('set a 3 | let', 'a', 2), ('set a 999999999 | let', 'a', 1), ('set a 4 | let', 'a', 2), ('set b 1 | up b | let', 'a b', 1),
    # Rows that come round without a sign, and ahead of them or behind them others that let.
    ('go 0 | let', '', 1), ('up a | set a 0 | go 0 | let', 'a', 1), ('either 2 | go 1 | either 0', '', 3),
    ('same a a 0 | let', 'a', 1), ('either 3 | is a 0 1 | let | let', 'a', 1), ('take 1 a | go 0 | let', 'a', 1),
    # Rows behind the last one.
    ('up a', 'a', 1), ('either 0', '', 1), ('take 1 a', 'a', 1), ('is a 1 0', 'a', 1), ('set a 0 | put a a', 'a', 1),
    # A row `let` that is never come to, or comes first.
    ('let', '', 1), ('let | go 0', 'a b', 1), ('refuse | let', 'a', 1), ('go 2 | let | refuse', 'a', 1),
    ('less a a 2 | refuse | let', 'a', 1),
    # Nothing to choose, `less`, `is`, `within` and `edge` at their borders.
    ('take 0 a | is a 0 3 | refuse | let', 'a', 1), ('take 0 a | is a 1 3 | refuse | let', 'a', 1),
    ('take 1 a | take 1 b | less a b 4 | refuse | let', 'a b', 1), ('take 1 a | less a b 3 | refuse | let', 'a b', 1),
    ('take 1 a | is a 1 3 | refuse | let', 'a', 1), ('take 1 a | is a 2 3 | refuse | let', 'a', 1),
    ('take 1 a | is a 999999999 3 | refuse | let', 'a', 1), ('take 2 a | within 1 a 3 | let | refuse', 'a', 2),
    ('take 1 a | within 1 a 3 | let | refuse', 'a', 1), ('take 1 a | within 0 a 0 | refuse | let', 'a', 1),
    ('take 2 a | edge 1 a 3 | go 0 | let', 'a', 2), ('edge 0 a 2 | refuse | let', 'a', 1), ('edge 1 a 2 | up a | let', 'a', 1),
    # All standings are come to; a single one is.
    ('take 1 a | take 1 b | go 0', 'a b', 1), ('take 2 a | either 0 | go 0', 'a', 2), ('refuse', 'a b', 1), ('go 0', 'a', 2),
    # Marks and arrows, also of names that the web lacks.
    ('take 1 a | mark m a 3 | refuse | let', 'a', 1), ('take 1 a | mark q a 3 | refuse | let', 'a', 1),
    ('take 1 a | arrow r a b 3 | refuse | let', 'a b', 1), ('take 1 b | arrow r b b 3 | refuse | let', 'a b', 1),
    ('take 2 a | mark m a 3 | refuse | let', 'a', 2), ('take 1 a | put b a | arrow r a b 4 | go 0 | let', 'a b', 1),
]


def size_of(reader, web):
    return len(reader) * web.places ** (len(reader.boxes) * reader.room)


def bent(draw, roll, others):
    """The roll with something wrong in it."""
    at = draw.randrange(len(roll) + 1)
    to = draw.randrange(at, len(roll) + 1)
    other = draw.choice(others) if others else ()
    sign = draw.choice([0, 1, 2, 3, 10 ** 9])
    return draw.choice([
        roll[:at], roll[at:], roll[:at] + roll[to:], roll[:to] + roll[at:], roll + roll, roll[:at] + (sign,) + roll[at:],
        roll[:at] + (sign,) + roll[at + 1:], roll[:at] + roll[at:to][::-1] + roll[to:], roll[:at] + other[at:],
        roll[:at] + other[to:], other, other[:at] + roll[at:], roll[to:] + roll[:at]])


class Example(unittest.TestCase):
    def test_point_8(self):
        reader = Reader('room 1\nboxes a\ntake 1 a\narrow r a a 3\nrefuse\nlet')
        self.assertEqual([lets_web(reader, RING), lets_web(reader, LINE), play(reader, RING, (1,))],
                         [True, False, ('let', 1)])
        self.assertEqual(play(contrary(reader), LINE, written(reader, LINE))[0], 'let')
        self.assertEqual(([lets_web(way_reader('r'), web) for web in (RING, LINE)],
                          [lets_web(no_way_reader('r'), web) for web in (RING, LINE)]), ([False, True], [True, False]))
        self.assertEqual((play(no_way_reader('r'), RING, no_way_roll(RING, 'r'))[0],
                          play(way_reader('r'), LINE, way_roll(LINE, 'r'))[0]), ('let', 'let'))


class Contrary(unittest.TestCase):
    def check(self, reader, web, whole=True):
        """The contrary lets the web just if the reader does not; whole: all its standings are gone through."""
        lets = plain_lets(reader, web)
        made = contrary(reader)
        if not lets:
            roll = written(reader, web)
            self.assertEqual(play(made, web, roll), ('let', len(roll)), (reader.text, web.text))
            self.assertNotEqual(play(made, web, roll[:-1])[0], 'let')
        if whole:
            # Contraries come to more standings than lets_web goes through.
            with mock.patch('contraryrolls.searches.MOST_STANDINGS', 10 ** 7):
                self.assertIs(lets_web(made, web), not lets, (reader.text, web.text))
        return lets

    def test_traps(self):
        webs = [Web('places 2'), RING, LINE, Web('places 2\nmark m 1\narrow r 0-0 1-0'), Web('places 3\nmark m 0 2\narrow r 2-2'),
                Web('places 3\nmark m'), WIDE]
        for rows, boxes, room in TRAPS:
            reader = reader_of(rows, boxes, room)
            for web in webs:
                if size_of(reader, web) <= 24:
                    self.check(reader, web, size_of(reader, web) <= 16)

    def test_drawn_readers(self):
        draw = random.Random(8)
        let = [0, 0]
        while min(let) < 120 or sum(let) < 500:
            boxes, room, places = draw.randint(0, 2), draw.randint(1, 3), draw.randint(2, 4)
            reader = drawn_reader(draw, draw.randint(1, 6), boxes, room, draw.choice([WORDS, TURNS]))
            web = drawn_web(draw, places)
            if size_of(reader, web) <= 24:
                let[self.check(reader, web, size_of(reader, web) <= 12)] += 1

    def test_many_rows_and_boxes(self):
        draw = random.Random(9)
        let = [0, 0]
        for _ in range(150):
            reader = drawn_reader(draw, draw.randint(7, 12), draw.choice([0, 1]), 1, draw.choice([WORDS, TURNS]))
            let[self.check(reader, drawn_web(draw, 2), False)] += 1
        for _ in range(150):
            reader = drawn_reader(draw, draw.randint(1, 3), 3, 1, draw.choice([WORDS, TURNS]))
            let[self.check(reader, drawn_web(draw, 2), False)] += 1
        self.assertGreater(min(let), 50)

    def test_webs_of_sixty_places(self):
        web = Web('places 60')
        for rows in ('either 2 | go 0 | either 1 | refuse', 'go 0', 'refuse', 'either 1 | either 2 | either 3 | either 0'):
            reader = reader_of(rows, '', 3)
            self.check(reader, web)
            self.assertIs(lets_web(contrary(reader), web), True)
        self.check(reader_of('either 2 | refuse | let'), web)

    def test_greater_webs_by_all_standings(self):
        """No roll is written for these, but it can be found whether one is there."""
        reader = reader_of('take 1 a | mark m a 3 | refuse | let', 'a')
        for places in (7, 8):
            for marked in ('', ' 0', f' {places - 1}'):
                web = Web(f'places {places}\nmark m{marked}')
                with mock.patch('contraryrolls.searches.MOST_STANDINGS', 10 ** 7):
                    self.assertIs(lets_web(contrary(reader), web), not marked)
        self.assertEqual(told(written, reader, Web('places 8\nmark m')), (TooMany, 24))

    def test_counting_as_far_as_it_goes(self):
        """All standings are come to, and their number is as near to the room of the contrary as it can be."""
        web = Web('places 2')
        for rows, boxes, room in (('take 3 a | take 3 b | go 0', 'a b', 3), ('take 2 a | take 2 b | go 0', 'a b', 2),
                                  ('take 1 a | take 1 b | take 1 c | either 0 | either 1 | either 2 | go 0', 'a b c', 1),
                                  ('take 3 a | either 0 | go 0', 'a', 3), ('either 1 | go 2 | go 0', '', 1)):
            reader = reader_of(rows, boxes, room)
            self.assertEqual(standings_many(reader, web), size_of(reader, web))
            with mock.patch('contraryrolls.rolls.MOST_SIZE', 200):
                roll = written(reader, web)
            self.assertEqual(play(contrary(reader), web, roll), ('let', len(roll)))

    def test_bent_rolls(self):
        draw = random.Random(10)
        tried = 0
        for rows, boxes, room in TRAPS:
            reader = reader_of(rows, boxes, room)
            webs = [drawn_web(draw, draw.randint(2, 3)) for _ in range(12)]
            webs = [web for web in webs if size_of(reader, web) <= 24]
            let = [web for web in webs if plain_lets(reader, web)]
            rolls = [written(reader, web) for web in webs if web not in let]
            rolls = rolls or [written(reader_of('refuse'), LINE), no_way_roll(RING, 'r')]
            made = contrary(reader)
            for web in let[:3]:
                for roll in rolls:
                    self.assertNotEqual(play(made, web, roll)[0], 'let')
                    for _ in range(6):
                        wrong = bent(draw, roll, rolls)
                        tried += 1
                        self.assertNotEqual(play(made, web, wrong)[0], 'let', (reader.text, web.text, wrong))
        self.assertGreater(tried, 300)

    def test_equal_readers(self):
        for rows, boxes, room in TRAPS[:10]:
            one = contrary(reader_of(rows, boxes, room))
            self.assertEqual(one, contrary(reader_of(rows, boxes, room)))
            self.assertEqual(one.text, contrary(Reader(reader_of(rows, boxes, room).text)).text)
            self.assertIs(type(one), Reader)


class Bounds(unittest.TestCase):
    def bounds(self, reader):
        made = contrary(reader)
        boxes, rows = len(reader.boxes), len(reader)
        self.assertLessEqual(len(made.boxes), 8 * boxes + 30)
        self.assertLessEqual(len(made), 200 + 60 * rows * (rows + boxes + 2))
        self.assertLessEqual(made.room, boxes * reader.room + len(f'{rows:b}') + 3)
        return made

    def test_boxes_rows_room(self):
        draw = random.Random(11)
        for rows, boxes, room in itertools.product(range(1, 13), range(4), range(1, 4)):
            for word in WORDS:
                if boxes or word in ('either', 'go', 'let', 'refuse'):
                    self.bounds(drawn_reader(draw, rows, boxes, room, [word]))
            self.bounds(drawn_reader(draw, rows, boxes, room))

    def test_standings(self):
        draw = random.Random(12)
        for rows, boxes, room, webs in (
                (4, 0, 1, ('places 2', 'places 60')), (4, 0, 3, ('places 2', 'places 60')), (3, 0, 2, ('places 2',)),
                (2, 1, 1, ('places 2\nmark m 1\narrow r 0-1',)), (1, 1, 2, ('places 2\nmark m 0',)), (1, 2, 1, ('places 2',)),
                (1, 1, 1, ('places 2\nmark m 0', 'places 3\nmark m 1\narrow r 0-1', 'places 4\nmark m 0 1'))):
            for _ in range(120):
                reader = drawn_reader(draw, rows, boxes, room, draw.choice([WORDS, TURNS, ['either', 'take', 'go', 'either', 'up']]))
                made = self.bounds(reader)
                for text in webs:
                    web = Web(text)
                    self.assertLessEqual(size_of(reader, web), 4)
                    self.assertLessEqual(standings_many(made, web), 50000)
                    self.assertIs(lets_web(made, web), not plain_lets(reader, web))

    def test_too_great(self):
        for rows, boxes, room in itertools.product((1, 12, 13, 40), (0, 3, 4), (1, 3, 4, 20)):
            reader = reader_of(['refuse'] * rows, ' '.join('abcdefg'[:boxes]), room)
            word = 'rows' if rows > 12 else 'boxes' if boxes > 3 else 'room' if room > 3 else None
            if word is None:
                self.assertIs(type(contrary(reader)), Reader)
            else:
                self.assertEqual(told(contrary, reader), (TooGreat, word))
                for web in (LINE, Web('places 60')):
                    self.assertEqual(told(written, reader, web), (TooGreat, word))


class Ways(unittest.TestCase):
    def way(self, web, name):
        """Whether a way leads from the first place to the last, by going along the arrows again and again."""
        pairs = dict(web.arrows).get(name, ())
        come_to = {other for one, other in pairs if one == 0}
        for _ in range(web.places):
            come_to |= {other for one, other in pairs if one in come_to}
        return web.places - 1 in come_to

    def check(self, web, name, whole=True):
        yes, no = way_reader(name), no_way_reader(name)
        there = self.way(web, name)
        if there:
            roll = way_roll(web, name)
            self.assertEqual(play(yes, web, roll), ('let', len(roll)))
            self.assertEqual(len(roll_of(yes, web)), len(roll))
        elif web.places <= 8:
            roll = no_way_roll(web, name)
            self.assertEqual(play(no, web, roll), ('let', len(roll)))
        self.assertIs(lets_web(yes, web), there)
        self.assertLessEqual(standings_many(yes, web), 40 * web.places ** 3)
        if whole:
            self.assertIs(lets_web(no, web), not there)
            self.assertLessEqual(standings_many(no, web), 30 * web.places ** 7)
        return there

    def test_all_webs_of_two_places(self):
        ways = [self.check(numbered_web(2, (), ('r',), number), 'r') for number in range(webs_many(2, (), ('r',)))]
        self.assertEqual(ways.count(True), 8)

    def test_webs_of_three_places_and_more(self):
        draw = random.Random(13)
        ways = [self.check(numbered_web(3, (), ('r',), number), 'r') for number in range(0, 512, 3)]
        self.assertGreater(min(ways.count(True), ways.count(False)), 30)
        ways = [self.check(drawn_web(draw, draw.randint(4, 5)), 'r') for _ in range(80)]
        self.assertGreater(min(ways.count(True), ways.count(False)), 10)
        for places in range(6, 61, 6):
            self.check(drawn_web(draw, places), 'r', False)

    def test_webs_of_eight_places(self):
        pairs = ' '.join(f'{at}-{at + 1}' for at in range(7))
        self.assertIs(self.check(Web(f'places 8\narrow r {pairs}'), 'r', False), True)
        self.assertIs(self.check(Web(f'places 8\narrow r {pairs[4:]}'), 'r', False), False)
        # All are come to but the last one, by long ways.
        self.assertIs(self.check(Web(f'places 8\narrow r {pairs[:-4]} 7-0 7-6'), 'r', False), False)
        whole = ' '.join(f'{one}-{other}' for one in range(7) for other in range(7))
        self.assertIs(self.check(Web(f'places 8\narrow r {whole}'), 'r', False), False)
        self.assertIs(self.check(Web('places 8\narrow r'), 'r', False), False)
        self.assertIs(self.check(Web('places 8'), 'r', False), False)

    def test_names(self):
        web = Web('places 3\narrow r 0-1 1-2\narrow take 0-2\nmark r 0')
        self.assertEqual([self.check(web, name) for name in ('r', 'take', 'let', 'abcdefgh', 'next', 'walked')],
                         [True, True, False, False, False, False])
        for name in ('a', 'abcdefgh', 'many'):
            self.assertEqual((way_reader(name), no_way_reader(name)), (way_reader(name), no_way_reader(name)))

    def test_boxes_rows_room(self):
        yes, no = way_reader('r'), no_way_reader('r')
        self.assertTrue(len(yes.boxes) <= 6 and len(yes) <= 40 and yes.room <= 2)
        self.assertTrue(len(no.boxes) <= 16 and len(no) <= 150 and no.room <= 3)

    def test_no_bent_roll_is_let_where_there_is_a_way(self):
        draw = random.Random(14)
        webs = [drawn_web(draw, draw.choice([2, 3, 4, 8])) for _ in range(60)]
        there = [web for web in webs if self.way(web, 'r')]
        rolls = [no_way_roll(web, 'r') for web in webs if web not in there]
        self.assertGreater(min(len(there), len(rolls)), 10)
        no = no_way_reader('r')
        for web in there:
            for _ in range(20):
                roll = bent(draw, draw.choice(rolls), rolls)
                self.assertNotEqual(play(no, web, roll)[0], 'let')

    def test_no_roll_shows_a_way_that_is_none(self):
        draw = random.Random(15)
        yes = way_reader('r')
        for _ in range(60):
            web = drawn_web(draw, 4)
            if not self.way(web, 'r'):
                for _ in range(20):
                    self.assertNotEqual(play(yes, web, tuple(draw.randrange(4) for _ in range(5)))[0], 'let')

    def test_bad_names(self):
        for value in values() + ['A', 'abcdefghi', 'a1', '', 'a b', ('a',)]:
            if value in ('a', 'red') and isinstance(value, str):
                continue
            for call in (way_reader, no_way_reader):
                error, kept = told(call, value)
                self.assertIs(error, BadName)
                self.assertIs(kept, value)


class Calls(unittest.TestCase):
    def test_by_names_and_in_this_file(self):
        reader = reader_of('refuse')
        self.assertEqual(contrary(reader=reader), contrary(reader))
        self.assertEqual((way_reader(name='r'), no_way_reader(name='r')), (way_reader('r'), no_way_reader('r')))
        for call in (contrary, way_reader, no_way_reader):
            self.assertEqual(call.__module__, 'contraryrolls.contraries')
            self.assertIs(getattr(contraries, call.__name__), call)

    def test_unchanged_arguments(self):
        reader = reader_of('take 1 a | mark m a 3 | refuse | let', 'a')
        kept = (reader.text, reader.room, reader.boxes, reader.rows)
        contrary(reader)
        self.assertEqual(kept, (reader.text, reader.room, reader.boxes, reader.rows))


if __name__ == '__main__':
    unittest.main()
