import itertools
import unittest
from unittest import mock

from contraryrolls import readers
from contraryrolls.errors import BadReader
from contraryrolls.readers import Reader
from contraryrolls.webs import Web
from tests.kinds import strings_left_out, told, values

# A row of each kind, in a reader of room 2 with the boxes b and c and four rows or more.
ROWS = {
    'take 2 b': ('take', 2, 'b'), 'either 3': ('either', 3), 'same b c 0': ('same', 'b', 'c', 0),
    'less c b 3': ('less', 'c', 'b', 3), 'is b 12 1': ('is', 'b', 12, 1), 'within 0 b 2': ('within', 0, 'b', 2),
    'edge 1 c 0': ('edge', 1, 'c', 0), 'mark red b 1': ('mark', 'red', 'b', 1),
    'arrow to b b 3': ('arrow', 'to', 'b', 'b', 3), 'set c 0': ('set', 'c', 0), 'put b c': ('put', 'b', 'c'),
    'up c': ('up', 'c'), 'go 0': ('go', 0), 'let': ('let',), 'refuse': ('refuse',),
}


def text_of(*rows, head='room 2\nboxes b c'):
    return '\n'.join([head, *rows])


def names(many):
    """So many names of boxes, all unlike."""
    return [''.join(letters) for letters in itertools.product('abcdefghijkl', repeat=2)][:many]


class Readers(unittest.TestCase):
    def test_point_5(self):
        rows = ['edge 1 here 6', 'take 1 next', 'arrow to here next 4', 'refuse', 'put here next', 'go 0', 'let']
        reader = Reader('\n'.join(['room 1', 'boxes here next'] + rows))
        self.assertEqual(
            [reader.room, reader.boxes, len(reader), reader.rows[0], reader.rows[2], reader.rows[6]],
            [1, ('here', 'next'), 7, ('edge', 1, 'here', 6), ('arrow', 'to', 'here', 'next', 4), ('let',)])
        self.assertEqual(Reader('room 1\nboxes\ngo 0').rows, (('go', 0),))
        self.assertEqual(Reader('room 1\nboxes a\nup a').rows, (('up', 'a'),))

    def test_each_kind_of_row(self):
        text = text_of(*ROWS)
        reader = Reader(text)
        self.assertIs(reader.text, text)
        self.assertEqual(reader.rows, tuple(ROWS.values()))
        self.assertEqual(len(reader), 15)
        for row, parts in ROWS.items():
            reader = Reader(text_of(row, 'let', 'let', 'let'))
            self.assertEqual(reader.rows[0], parts)
            self.assertEqual([type(part) for part in reader.rows[0]], [type(part) for part in parts])

    def test_rooms(self):
        for room in range(1, 21):
            reader = Reader(f'room {room}\nboxes a\ntake {room} a\ntake 0 a\nwithin {room} a 0\nedge {room} a 1')
            self.assertEqual((reader.room, reader.rows[0]), (room, ('take', room, 'a')))
            self.assertIs(type(reader.room), int)

    def test_boxes(self):
        self.assertEqual(Reader('room 1\nboxes\nlet').boxes, ())
        self.assertEqual(Reader('room 1\nboxes z a abcdefgh\nlet').boxes, ('z', 'a', 'abcdefgh'))
        many = names(120)
        reader = Reader(f'room 1\nboxes {" ".join(many)}\nput {many[0]} {many[119]}')
        self.assertEqual(reader.boxes, tuple(many))
        self.assertEqual(reader.rows, (('put', many[0], many[119]),))

    def test_words_of_rows_are_names_too(self):
        reader = Reader('room 1\nboxes take room boxes up\nput take up\nmark let take 0\narrow arrow room boxes 1')
        self.assertEqual(reader.rows[1:], (('mark', 'let', 'take', 0), ('arrow', 'arrow', 'room', 'boxes', 1)))

    def test_numbers(self):
        for number in [0, 1, 9, 10, 999999999]:
            reader = Reader(text_of(f'is b {number} 0', f'set b {number}'))
            self.assertEqual(reader.rows, (('is', 'b', number, 0), ('set', 'b', number)))

    def test_many_rows(self):
        reader = Reader(text_of(*['go 39999'] * 40000))
        self.assertEqual((len(reader), reader.rows[39999]), (40000, ('go', 39999)))
        self.assertEqual(len(Reader(text_of('go 0'))), 1)

    def test_equal(self):
        texts = [text_of('let'), text_of('refuse'), text_of('let', 'let'), text_of('let', head='room 1\nboxes b c'),
                 text_of('let', head='room 2\nboxes c b'), text_of('let', head='room 2\nboxes')]
        for one, other in itertools.product(texts, repeat=2):
            self.assertIs(Reader(one) == Reader(other), one == other)
            self.assertIs(Reader(one) != Reader(other), one != other)

    def test_equal_to_nothing_else(self):
        reader = Reader('room 2\nboxes\nlet')
        others = [value for value in values() if not isinstance(value, Reader)]
        for other in others + [reader.text, reader.rows, mock.ANY, Web('places 2'), 1]:
            self.assertIs(reader == other, False)
            self.assertIs(reader != other, True)

    def test_by_name_and_in_this_file(self):
        self.assertEqual(Reader(text='room 1\nboxes\nlet'), Reader('room 1\nboxes\nlet'))
        self.assertEqual(readers.Reader.__module__, 'contraryrolls.readers')
        for name in ['__init__', '__eq__', '__len__']:
            self.assertIn(name, vars(Reader))


class BadTexts(unittest.TestCase):
    def bad(self, text, number):
        with self.subTest(text=text):
            self.assertEqual(told(Reader, text), (BadReader, number))

    def test_no_strings(self):
        for value in strings_left_out(values()):
            self.bad(value, 0)
        self.bad(b'room 1\nboxes\nlet', 0)

    def test_first_lines(self):
        for line in ['', 'room', 'room ', 'room 0', 'room 21', 'room 01', 'room +1', 'room -1', 'room 1 ', ' room 1',
                     'room  1', 'room 1 1', 'Room 1', 'room a', 'room 1.0', 'room 1000000000', 'rooms 1', 'boxes',
                     'room 0000000001', 'room\t1', '1', 'room 20000000000000000000']:
            self.bad(line, 1)
            self.bad(line + '\nboxes\nlet', 1)
            self.bad(line + '\nno', 1)

    def test_second_lines(self):
        many = names(121)
        for line in ['', 'box', 'boxes ', ' boxes', 'boxes  a', 'boxes a ', 'boxes a  b', 'boxes a a', 'boxes a b a',
                     'boxes A', 'boxes a1', 'boxes abcdefghi', 'boxes 1', 'Boxes a', 'boxes a,b', 'let', 'room 1',
                     'boxes ' + ' '.join(many), 'a', 'boxes\ta']:
            self.bad('room 1\n' + line, 2)
            self.bad('room 1\n' + line + '\nlet', 2)
            self.bad('room 1\n' + line + '\nno', 2)

    def test_lines_that_are_missing(self):
        self.bad('room 1', 2)
        self.bad('room 1\n', 2)
        self.bad('room 1\nboxes', 3)
        self.bad('room 1\nboxes a b', 3)
        self.bad('room 1\nboxes\n', 3)
        self.bad('room 1\nboxes\nlet\n', 4)
        self.bad('room 1\nboxes\n\nlet', 3)

    def bad_row(self, row):
        """The row cannot stand in any of the lines in which it is tried."""
        self.bad(text_of(row, 'let', 'let', 'let'), 3)
        self.bad(text_of('let', 'let', 'let', row), 6)
        self.bad(text_of('let', row, 'no', row), 4)

    def test_a_word_too_many_or_too_few(self):
        for row in ROWS:
            words = row.split(' ')
            for end in ['b', 'c', '0', '1', '', 'let']:
                self.bad_row(row + ' ' + end)
                self.bad_row(' '.join([words[0], end] + words[1:]))
            if len(words) > 1:
                for at in range(1, len(words)):
                    self.bad_row(' '.join(words[:at] + words[at + 1:]))
                self.bad_row(words[0])
            self.bad_row(' ' + row)
            self.bad_row(row.replace(' ', '  ', 1) if ' ' in row else row + '  ')
            self.bad_row(row.title())
            self.bad_row('x' + row)

    def test_each_word_exchanged(self):
        """Numbers, names and boxes stand only where a row has them."""
        wrong = {
            'B': ['d', 'B', '', '0', 'bb', 'red', 'abcdefghi', '-'],
            'N': ['', 'R', 'red1', 'abcdefghi', '0', 'r-d', '-'],
            'K': ['', 'b', '-1', '+1', '01', '00', '1000000000', '0000000001', '1.0', '1_0', 'True', '-0'],
            'Q': ['', 'b', '-1', '+1', '01', '3', '10', '1000000000', '0.0', '-0'],
            'L': ['', 'b', '-1', '+1', '01', '4', '5', '10', '1000000000', '0.0', '-0'],
        }
        forms = {
            'take': 'QB', 'either': 'L', 'same': 'BBL', 'less': 'BBL', 'is': 'BKL', 'within': 'QBL', 'edge': 'QBL',
            'mark': 'NBL', 'arrow': 'NBBL', 'set': 'BK', 'put': 'BB', 'up': 'B', 'go': 'L', 'let': '', 'refuse': '',
        }
        for row in ROWS:
            words = row.split(' ')
            for at, letter in enumerate(forms[words[0]], start=1):
                for word in wrong[letter]:
                    self.bad_row(' '.join(words[:at] + [word] + words[at + 1:]))

    def test_other_rows(self):
        for row in ['', ' ', 'no', 'LET', 'call 0', 'back', 'room 2', 'boxes', 'take', 'jump 0', 'goto 0', '0', 'let b']:
            self.bad_row(row)

    def test_numbers_hang_on_the_reader(self):
        for head, row in [('room 1\nboxes a', 'take 2 a'), ('room 20\nboxes a', 'within 21 a 0'),
                          ('room 3\nboxes a', 'edge 4 a 0'), ('room 1\nboxes a', 'go 1'), ('room 1\nboxes', 'up a')]:
            self.bad(head + '\n' + row, 3)
        self.bad('room 1\nboxes a\ngo 2\nlet', 3)
        self.bad('room 1\nboxes a\ngo 1\neither 2', 4)

    def test_too_many_rows(self):
        self.bad(text_of(*['let'] * 40001), 40003)
        self.bad(text_of(*['let'] * 40005), 40003)
        self.bad(text_of(*['go 40000'] * 40001), 40003)
        self.bad(text_of('go 40001', *['let'] * 40000), 3)
        self.bad(text_of(*['let'] * 40000, 'no'), 40003)

    def test_the_first_one_counts(self):
        self.bad('room 0\nboxes A\nno', 1)
        self.bad('room 1\nboxes A\nno', 2)
        self.bad('room 1\nboxes a\nno\nno', 3)
        self.bad('room 1\nboxes a\nlet\nno\ngo 9', 4)


if __name__ == '__main__':
    unittest.main()
