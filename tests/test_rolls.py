import random
import unittest

from contraryrolls import rolls
from contraryrolls.contraries import contrary, no_way_reader, way_reader
from contraryrolls.errors import BadName, HasWay, Lets, NoWay, TooGreat, TooMany
from contraryrolls.plays import play
from contraryrolls.readers import Reader
from contraryrolls.rolls import no_way_roll, way_roll, written
from contraryrolls.webs import has_arrow, Web
from tests.kinds import told, values
from tests.plain import drawn_reader, drawn_web, plain_play, reader_of

MARKED = reader_of('take 1 a | mark m a 3 | refuse | let', 'a')


class Written(unittest.TestCase):
    def test_a_roll_of_integers(self):
        roll = written(MARKED, Web('places 3\nmark q 1'))
        self.assertIs(type(roll), tuple)
        self.assertEqual({type(sign) for sign in roll}, {int})
        self.assertEqual(plain_play(contrary(MARKED), Web('places 3'), roll), ('let', len(roll)))

    def test_a_roll_of_another_web(self):
        """It is let by no web that the reader lets, and need not be let by those that it does not let."""
        roll = written(MARKED, Web('places 3'))
        self.assertEqual(play(contrary(MARKED), Web('places 3\nmark q 0 1 2'), roll), ('let', len(roll)))
        for marked in ('0', '1', '2', '0 1 2'):
            self.assertNotEqual(play(contrary(MARKED), Web(f'places 3\nmark m {marked}'), roll)[0], 'let')

    def test_sizes(self):
        for rows, boxes, room, places, size in (
                (12, 1, 1, 2, 24), (6, 2, 1, 2, 24), (6, 1, 2, 2, 24), (3, 3, 1, 2, 24), (3, 1, 3, 2, 24), (8, 1, 1, 3, 24),
                (12, 0, 3, 60, 12), (4, 1, 1, 6, 24), (2, 1, 2, 3, 18), (1, 1, 1, 24, 24)):
            self.assertLessEqual(size, 24)
            reader = reader_of(['either 0'] * rows, ' '.join('abc'[:boxes]), room)
            web = Web(f'places {places}')
            roll = written(reader, web)
            self.assertEqual(play(contrary(reader), web, roll), ('let', len(roll)))

    def test_errors_in_their_order(self):
        let, web = ['let'], Web('places 2')
        for rows, boxes, room, error in (
                (13, 4, 4, (TooGreat, 'rows')), (13, 0, 1, (TooGreat, 'rows')), (12, 4, 4, (TooGreat, 'boxes')),
                (1, 4, 1, (TooGreat, 'boxes')), (1, 0, 4, (TooGreat, 'room')), (12, 3, 3, (TooMany, 24)),
                (4, 3, 1, (TooMany, 24)), (7, 2, 1, (TooMany, 24)), (1, 2, 3, (TooMany, 24))):
            self.assertEqual(told(written, reader_of(let * rows, ' '.join('abcd'[:boxes]), room), web), error)
        self.assertEqual(told(written, reader_of('let', 'a'), Web('places 25')), (TooMany, 24))
        self.assertEqual(told(written, reader_of('let', 'a'), Web('places 24')), (Lets, ()))
        self.assertEqual(told(written, reader_of('refuse', 'a'), Web('places 25')), (TooMany, 24))
        self.assertEqual(told(written, reader_of('refuse', 'a'), Web('places 60')), (TooMany, 24))

    def test_lets_with_a_roll(self):
        draw = random.Random(1)
        raised = 0
        while raised < 100:
            reader = drawn_reader(draw, draw.randint(1, 5), draw.randint(0, 2), 1)
            web = drawn_web(draw, 2)
            error, roll = told(written, reader, web)
            if error is not None:
                raised += 1
                self.assertIs(error, Lets)
                result = plain_play(reader, web, roll)
                self.assertEqual(result[0], 'let')
        self.assertEqual(told(written, MARKED, Web('places 3\nmark m 1')), (Lets, (1,)))


class WayRolls(unittest.TestCase):
    def test_way_roll(self):
        web = Web('places 4\narrow r 0-1 1-2 1-3 2-3\narrow s 0-0 3-3\narrow t 0-3')
        for name in ('r', 't'):
            roll = way_roll(web, name)
            self.assertEqual(play(way_reader(name), web, roll), ('let', len(roll)))
        for name in ('s', 'q', 'abcdefgh'):
            self.assertEqual(told(way_roll, web, name), (NoWay, None))
        big = Web('places 60\narrow r ' + ' '.join(f'{at}-{at + 1}' for at in range(59)))
        roll = way_roll(big, 'r')
        self.assertEqual(play(way_reader('r'), big, roll), ('let', len(roll)))

    def test_has_way(self):
        draw = random.Random(2)
        there = 0
        for _ in range(100):
            web = drawn_web(draw, draw.randint(2, 8))
            error, places = told(no_way_roll, web, 'r')
            if error is None:
                self.assertEqual(play(no_way_reader('r'), web, places), ('let', len(places)))
                self.assertEqual(told(way_roll, web, 'r'), (NoWay, None))
                continue
            there += 1
            self.assertIs(error, HasWay)
            self.assertEqual((places[0], places[-1], type(places)), (0, web.places - 1, tuple))
            for one, other in zip(places, places[1:]):
                self.assertTrue(has_arrow(web, 'r', one, other))
        self.assertGreater(there, 20)
        self.assertEqual(told(no_way_roll, Web('places 2\narrow r 0-1'), 'r'), (HasWay, (0, 1)))

    def test_more_than_eight_places(self):
        for places in (9, 60):
            for rest in ('', f'\narrow r 0-{places - 1}'):
                self.assertEqual(told(no_way_roll, Web(f'places {places}{rest}'), 'r'), (TooMany, 8))
        self.assertEqual(told(no_way_roll, Web('places 8\narrow r 0-7'), 'r'), (HasWay, (0, 7)))

    def test_bad_names_ahead_of_all(self):
        for value in values() + ['A', 'abcdefghi', 'a1', ('r',)]:
            if value in ('a', 'red') and isinstance(value, str):
                continue
            for call in (way_roll, no_way_roll):
                for web in (Web('places 60'), Web('places 2\narrow r 0-1')):
                    error, kept = told(call, web, value)
                    self.assertIs(error, BadName)
                    self.assertIs(kept, value)


class Calls(unittest.TestCase):
    def test_by_names_and_in_this_file(self):
        web = Web('places 3\narrow r 0-1 1-2')
        self.assertEqual(written(web=web, reader=MARKED), written(MARKED, web))
        self.assertEqual(way_roll(name='r', web=web), way_roll(web, 'r'))
        self.assertEqual(no_way_roll(name='s', web=web), no_way_roll(web, 's'))
        for call in (written, way_roll, no_way_roll):
            self.assertEqual(call.__module__, 'contraryrolls.rolls')
            self.assertIs(getattr(rolls, call.__name__), call)

    def test_equal_calls_and_unchanged_arguments(self):
        web, reader = Web('places 3\narrow r 0-1'), Reader(MARKED.text)
        kept = (web.text, web.marks, web.arrows, reader.text, reader.rows)
        self.assertEqual(written(reader, web), written(MARKED, Web(web.text)))
        self.assertEqual(no_way_roll(web, 'r'), no_way_roll(Web(web.text), 'r'))
        self.assertEqual(kept, (web.text, web.marks, web.arrows, reader.text, reader.rows))


if __name__ == '__main__':
    unittest.main()
