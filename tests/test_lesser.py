import random
import unittest

from contraryrolls import lesser as module
from contraryrolls.joins import renamed
from contraryrolls.lesser import led_rows, lesser, same_form
from contraryrolls.plays import play
from contraryrolls.readers import Reader
from tests.plain import drawn_reader, drawn_web, reader_of

# A row of each kind, what it leads to in a reader of five rows in which it is row 1.
LEADS = {
    'take 1 a': (2,), 'set a 0': (2,), 'put a b': (2,), 'up a': (2,), 'either 4': (2, 4), 'same a b 4': (2, 4),
    'less a b 4': (2, 4), 'is a 4 4': (2, 4), 'within 0 a 4': (2, 4), 'edge 1 b 4': (2, 4), 'mark m a 4': (2, 4),
    'arrow r b a 4': (2, 4), 'go 4': (4,), 'go 3': (3,), 'let': (), 'refuse': (), 'same a a 0': (2,), 'go 0': (),
    'go 1': (), 'either 1': (2,), 'is a 0 3': (2, 3),
}


def plain_led(reader):
    """The rows that are led to, by rules used again and again until nothing new comes."""
    led = {0}
    while True:
        new = set(led)
        for row in led:
            parts = reader.rows[row]
            if parts[0] not in ('go', 'let', 'refuse'):
                new.add(row + 1)
            if parts[0] in ('either', 'same', 'less', 'is', 'within', 'edge', 'mark', 'arrow', 'go'):
                new.add(parts[-1])
        new.discard(len(reader.rows))
        if new == led:
            return tuple(sorted(led))
        led = new


class Led(unittest.TestCase):
    def test_point_6(self):
        reader = Reader('room 1\nboxes a b\ngo 2\nup b\nis a 0 4\nrefuse\nlet')
        self.assertEqual([led_rows(reader), lesser(reader).text],
                         [(0, 2, 3, 4), 'room 1\nboxes a\ngo 1\nis a 0 3\nrefuse\nlet'])
        self.assertTrue(same_form(reader, Reader('room 1\nboxes c\ngo 1\nis c 0 3\nrefuse\nlet')))

    def test_each_kind_of_row(self):
        for row, behind in LEADS.items():
            reader = reader_of(['put a a', row, 'refuse', 'refuse', 'refuse'], 'a b')
            self.assertEqual(led_rows(reader), (0, 1) + behind, row)
            self.assertIs(type(led_rows(reader)), tuple)

    def test_rows_that_nothing_leads_to(self):
        self.assertEqual(led_rows(reader_of('let | go 0 | let')), (0,))
        self.assertEqual(led_rows(reader_of('go 2 | go 0 | go 1 | up a', 'a')), (0, 1, 2))
        # What leads to a row has to be led to itself.
        self.assertEqual(led_rows(reader_of('go 3 | go 2 | go 1 | refuse')), (0, 3))
        self.assertEqual(led_rows(reader_of('up a', 'a')), (0,))
        self.assertEqual(led_rows(reader_of(['go 39999'] * 40000)), (0, 39999))
        self.assertEqual(len(led_rows(reader_of(['up a'] * 40000, 'a'))), 40000)

    def test_against_the_rules(self):
        draw = random.Random(1)
        for _ in range(500):
            reader = drawn_reader(draw, draw.randint(1, 12), draw.randint(0, 3), 2)
            self.assertEqual(led_rows(reader), plain_led(reader))


class Lesser(unittest.TestCase):
    def test_rows_and_boxes(self):
        reader = reader_of('go 3 | up z | go 0 | less c a 6 | go 5 | take 2 c | either 3 | mark a a 0 | let | up b',
                           'z c b a', 3)
        self.assertEqual(
            lesser(reader).text,
            'room 3\nboxes c a\ngo 1\nless c a 4\ngo 3\ntake 2 c\neither 1\nmark a a 0\nlet')

    def test_names_of_marks_are_no_boxes(self):
        self.assertEqual(lesser(reader_of('mark b a 1 | arrow b a a 0', 'b a')).text,
                         'room 1\nboxes a\nmark b a 1\narrow b a a 0')

    def test_numbers_that_are_no_rows_stay(self):
        reader = reader_of('go 2 | let | is a 2 4 | take 2 a | within 2 a 2 | set a 2 | edge 2 a 5', 'a', 2)
        self.assertEqual(lesser(reader).text,
                         'room 2\nboxes a\ngo 1\nis a 2 3\ntake 2 a\nwithin 2 a 1\nset a 2\nedge 2 a 4')

    def test_no_boxes(self):
        self.assertEqual(lesser(reader_of('let | up a', 'a b', 7)).text, 'room 7\nboxes\nlet')
        self.assertEqual(lesser(reader_of('refuse')).text, 'room 1\nboxes\nrefuse')

    def test_behind_the_last_row(self):
        self.assertEqual(lesser(reader_of('go 2 | let | up a', 'a')).text, 'room 1\nboxes a\ngo 1\nup a')

    def test_lesser_of_lesser_and_the_same_rolls(self):
        draw = random.Random(4)
        fewer = 0
        for _ in range(600):
            reader = drawn_reader(draw, draw.randint(1, 10), draw.randint(0, 3), draw.randint(1, 2))
            made = lesser(reader)
            fewer += len(made) < len(reader)
            self.assertEqual(made.room, reader.room)
            self.assertEqual(lesser(made), made)
            self.assertEqual(len(made), len(led_rows(reader)))
            self.assertEqual(led_rows(made), tuple(range(len(made))))
            self.assertEqual(made.boxes, tuple(box for box in reader.boxes if box in made.boxes))
            self.assertTrue(same_form(reader, made) and same_form(made, reader))
            web = drawn_web(draw, draw.randint(2, 3))
            for _ in range(5):
                roll = tuple(draw.randrange(3) for _ in range(draw.randint(0, 6)))
                one, other = play(reader, web, roll), play(made, web, roll)
                self.assertEqual(one[0], other[0])
                if one[0] == 'let':
                    self.assertEqual(one, other)
        self.assertGreater(fewer, 200)


class SameForm(unittest.TestCase):
    def both_ways(self, one, other, same):
        self.assertIs(same_form(one, other), same)
        self.assertIs(same_form(other, one), same)

    def test_names_and_sequence_of_boxes(self):
        one = reader_of('less a b 2 | up a | let', 'a b')
        self.both_ways(one, reader_of('less y x 2 | up y | let', 'y x'), True)
        self.both_ways(one, reader_of('less y x 2 | up y | let', 'x y'), True)
        self.both_ways(one, reader_of('less b a 2 | up b | let', 'a b'), True)
        self.both_ways(one, reader_of('less b a 2 | up a | let', 'a b'), False)
        self.both_ways(one, reader_of('less b a 2 | up b | let', 'a b c'), True)
        self.both_ways(one, one, True)

    def test_two_boxes_for_one(self):
        self.both_ways(reader_of('less a b 1 | let', 'a b'), reader_of('less a a 1 | let', 'a'), False)
        self.both_ways(reader_of('up a | up b | let', 'a b'), reader_of('up a | up a | let', 'a'), False)
        self.both_ways(reader_of('up a | up b | up a', 'a b'), reader_of('up a | up b | up b', 'a b'), False)

    def test_what_has_to_be_the_same(self):
        one = reader_of('take 1 a | is a 1 0 | mark m a 2 | within 0 a 1', 'a', 2)
        self.both_ways(one, reader_of('take 1 a | is a 1 0 | mark m a 2 | within 0 a 1', 'a', 3), False)
        for other in ('take 2 a | is a 1 0 | mark m a 2 | within 0 a 1', 'take 1 a | is a 2 0 | mark m a 2 | within 0 a 1',
                      'take 1 a | is a 1 1 | mark m a 2 | within 0 a 1', 'take 1 a | is a 1 0 | mark n a 2 | within 0 a 1',
                      'take 1 a | is a 1 0 | mark m a 2 | edge 0 a 1', 'take 1 a | is a 1 0 | mark m a 2',
                      'take 1 a | is a 1 0 | mark m a 2 | within 0 a 1 | let', 'let'):
            self.both_ways(one, reader_of(other, 'a', 2), False)
        self.both_ways(reader_of('arrow a a b 0', 'a b'), reader_of('arrow a b a 0', 'a b'), True)
        self.both_ways(reader_of('arrow a a b 0', 'a b'), reader_of('arrow b b a 0', 'a b'), False)

    def test_rows_that_nothing_leads_to_do_not_count(self):
        self.both_ways(reader_of('go 2 | up b | let', 'a b'), reader_of('go 1 | let | refuse', ''), True)
        self.both_ways(reader_of('let | up b', 'a b'), reader_of('let'), True)

    def test_drawn(self):
        draw = random.Random(6)
        for _ in range(300):
            one = drawn_reader(draw, draw.randint(1, 5), draw.randint(1, 3), 1)
            names = draw.sample(['p', 'q', 'a', 'b', 'c'], len(one.boxes))
            self.both_ways(one, renamed(one, tuple(names)), True)
            other = drawn_reader(draw, len(one), len(one.boxes), 1)
            self.assertIs(same_form(one, other), same_form(other, one))


class Calls(unittest.TestCase):
    def test_by_names_and_in_this_file(self):
        reader = reader_of('go 1 | let')
        self.assertEqual(led_rows(reader=reader), (0, 1))
        self.assertEqual(lesser(reader=reader), reader)
        self.assertIs(same_form(other=reader, one=reader_of('let')), False)
        for call in (led_rows, lesser, same_form):
            self.assertEqual(call.__module__, 'contraryrolls.lesser')
            self.assertIs(getattr(module, call.__name__), call)
        self.assertIs(type(lesser(reader)), Reader)

    def test_unchanged_arguments_and_equal_calls(self):
        reader = reader_of('go 2 | let | is a 0 0', 'a b')
        kept = (reader.text, reader.room, reader.boxes, reader.rows)
        self.assertEqual(lesser(reader), lesser(Reader(reader.text)))
        self.assertEqual(led_rows(reader), led_rows(Reader(reader.text)))
        self.assertEqual(same_form(reader, reader), same_form(Reader(reader.text), reader))
        self.assertEqual(kept, (reader.text, reader.room, reader.boxes, reader.rows))


if __name__ == '__main__':
    unittest.main()
