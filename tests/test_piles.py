import random
import unittest

from contraryrolls.errors import BadNumber, BadReader
from contraryrolls.piles import PileReader, run_pile
from contraryrolls.readers import Reader
from contraryrolls.webs import Web
from tests.kinds import strings_left_out, told, values
from tests.plain import drawn_row, drawn_web, is_so

TESTS = ('same', 'less', 'is', 'within', 'edge', 'mark', 'arrow')
WORDS = TESTS + ('set', 'put', 'up', 'go', 'let', 'refuse')


def pile(rows, boxes='', room=1):
    """The pile reader with these rows, a list or a text with one blank and a bar between two."""
    if isinstance(rows, str):
        rows = rows.split(' | ')
    return PileReader('\n'.join([f'room {room}', f'boxes {boxes}'.rstrip(), *rows]))


def plain_run(reader, web, most):
    here, on, row, steps, deepest = {box: 0 for box in reader.boxes}, [], 0, 0, 0
    while row < len(reader.rows):
        if steps == most:
            return 'more', most, deepest
        steps += 1
        word, *parts = reader.rows[row]
        row += 1
        if word in ('let', 'refuse'):
            return 'let' if word == 'let' else 'refused', steps, deepest
        if word in TESTS:
            row = parts[-1] if is_so(reader, web, (word, *parts), here) else row
        elif word in ('set', 'up'):
            number = parts[1] if word == 'set' else here[parts[0]] + 1
            if number >= web.places ** reader.room:
                return 'refused', steps, deepest
            here[parts[0]] = number
        elif word == 'put':
            here[parts[0]] = here[parts[1]]
        elif word == 'go':
            row = parts[0]
        elif word == 'call':
            on.append((row, {box: here[box] for box in parts[1:]}))
            row, deepest = parts[0], max(deepest, len(on))
        elif not on:
            return 'refused', steps, deepest
        else:
            row, kept = on.pop()
            here.update(kept)
    return 'refused', steps, deepest


def drawn_pile(draw, rows, boxes, room):
    names = draw.sample(['a', 'b', 'c', 'z', 'call'], boxes)
    told_ = []
    for _ in range(rows):
        word = draw.choice(['row', 'row', 'call', 'back'])
        if word == 'call':
            kept = [draw.choice(names) for _ in range(draw.choice([0, 1, 2, 3]))]
            told_.append(' '.join(['call', str(draw.randrange(rows)), *kept]))
        else:
            told_.append(word if word == 'back' else drawn_row(draw, rows, names, room, WORDS))
    return pile(told_, ' '.join(names), room)


class Example(unittest.TestCase):
    def test_point_13(self):
        reader = PileReader('room 1\nboxes a b\ncall 3 a\nis b 1 5\nrefuse\nup b\nback\nlet')
        self.assertEqual([reader.rows[0], reader.rows[4], run_pile(reader, Web('places 2'), 9), run_pile(reader, Web('places 2'), 4)],
                         [('call', 3, 'a'), ('back',), ('let', 5, 1), ('more', 4, 1)])
        self.assertEqual(run_pile(PileReader('room 2\nboxes a\nup a\ngo 0'), Web('places 2'), 99), ('refused', 7, 0))


class PileReaders(unittest.TestCase):
    def test_each_row(self):
        rows = ['same a b 1', 'less a b 2', 'is a 5 0', 'within 0 a 3', 'edge 2 a 4', 'mark back a 5', 'arrow call a b 6',
                'set a 7', 'put a b', 'up b', 'go 3', 'let', 'refuse', 'call 0', 'call 14 a', 'call 15 b a b b', 'back']
        reader = pile(rows, 'a b', 2)
        self.assertEqual(reader.text, '\n'.join(['room 2', 'boxes a b', *rows]))
        self.assertEqual((reader.room, reader.boxes), (2, ('a', 'b')))
        self.assertEqual(reader.rows, tuple(tuple(int(word) if word.isdigit() else word for word in row.split()) for row in rows))
        self.assertEqual([type(part) for part in reader.rows[14]], [str, int, str])
        self.assertEqual((type(reader.rows), {type(row) for row in reader.rows}), (tuple, {tuple}))

    def test_equal(self):
        one, same, other = pile('let'), pile('let'), pile('refuse')
        self.assertTrue(one == same and not one != same and one != other and not one == other)
        for value in [*values(), one.text, Reader(one.text)]:
            self.assertFalse(one == value)
            self.assertTrue(one != value)
        self.assertFalse(Reader(one.text) == one)

    def test_no_strings(self):
        for value in strings_left_out(values()):
            self.assertEqual(told(PileReader, value), (BadReader, 0))

    def test_lines(self):
        for text, line in (('', 1), ('room 0', 1), ('room 21\nboxes\nlet', 1), ('room 1', 2), ('room 1\n', 2), ('room 1\nboxes A\nlet', 2),
                           ('room 1\nboxes a a\nlet', 2), ('room 1\nboxes', 3), ('room 1\nboxes\n', 3), ('room 1\nboxes\nlet\n', 4)):
            self.assertEqual(told(PileReader, text), (BadReader, line), text)
        for row in ('take 1 a', 'take 0 a', 'either 0', 'either 1', 'call', 'call ', 'call a', 'call 3', 'call 00', 'call 0 c', 'call 0 a c',
                    'call 0  a', 'call 0 a ', 'call -1', 'call 0 0', 'back 0', 'back a', 'back ', 'Back', 'calls 0', '', 'mark m', 'same a 0',
                    'within 2 a 0', 'go 3', 'go', 'LM', 'let 0', 'set a', 'arrow r a 0', 'call 0 A', 'call 1000000000'):
            self.assertEqual(told(pile, ['let', row, 'let'], 'a b'), (BadReader, 4), row)
            self.assertEqual(told(pile, ['let', row, row], 'a b'), (BadReader, 4), row)
        self.assertIsNone(told(pile, ['call 2 a b a a', 'back', 'call 0'], 'a b')[0])

    def test_as_many_boxes_and_rows_as_a_reader(self):
        names = [f'{one}{other}' for one in 'abcdefghijkl' for other in 'abcdefghij']
        reader = pile(['call 0 ' + ' '.join(names * 2), 'let'], ' '.join(names))
        self.assertEqual(reader.rows[0], ('call', 0, *names, *names))
        self.assertEqual(told(pile, 'let', ' '.join([*names, 'z'])), (BadReader, 2))
        self.assertEqual(len(pile(['back'] * 40000).rows), 40000)
        self.assertIs(told(pile, ['back'] * 40001)[0], BadReader)

    def test_readers_do_not_have_these_rows(self):
        for row in ('call 0', 'call 0 a', 'back'):
            self.assertEqual(told(Reader, f'room 1\nboxes a\n{row}'), (BadReader, 3))


class Runs(unittest.TestCase):
    def test_drawn(self):
        draw = random.Random(1)
        found = {'let': 0, 'refused': 0, 'more': 0}
        deep = 0
        for _ in range(4000):
            reader = drawn_pile(draw, draw.choice([3, 5, 8, 12]), draw.choice([1, 2, 3]), draw.choice([1, 2]))
            web, most = drawn_web(draw, draw.choice([2, 3])), draw.choice([0, 1, 2, 5, 30, 100])
            ended = run_pile(reader, web, most)
            self.assertEqual(ended, plain_run(reader, web, most), reader.text)
            found[ended[0]] += 1
            deep += ended[2] > 1
        self.assertGreater(min(*found.values(), deep), 200)

    def test_call(self):
        for rows, ended in (
                ('call 2 | let | up a | up b | back', ('let', 5, 1)),
                ('call 3 | is a 1 6 | refuse | up a | back | refuse | let', ('let', 5, 1)),
                ('call 3 a | is a 0 6 | refuse | up a | back | refuse | let', ('let', 5, 1)),
                ('call 3 a a | is a 0 6 | refuse | up a | back | refuse | let', ('let', 5, 1)),
                ('up b | call 4 a b | is b 1 7 | refuse | set b 0 | up a | back | is a 0 9 | refuse | let', ('let', 8, 1)),
                ('up b | call 4 a b | is b 1 7 | refuse | set b 0 | set a 1 | back | is a 1 9 | refuse | let', ('refused', 8, 1)),
                ('call 1 | call 2 | call 3 a | let', ('let', 4, 3)),
                ('call 2 | let | call 4 | back | call 6 | back | back', ('let', 7, 3)),
                ('call 2 | call 3 | back | let', ('let', 4, 1)),
                ('call 1 a | back | let', ('refused', 3, 1)), ('call 0 a b', ('more', 50, 50)), ('back', ('refused', 1, 0))):
            self.assertEqual(run_pile(pile(rows, 'a b'), Web('places 2'), 50), ended, rows)

    def test_behind_the_last_row(self):
        """It is refused there without a step."""
        web = Web('places 2')
        for rows, ended in (('set a 0', ('refused', 1, 0)), ('put a b | up a', ('refused', 2, 0)), ('is a 1 0', ('refused', 1, 0)),
                            ('go 2 | back | call 1', ('refused', 3, 1))):
            reader = pile(rows, 'a b')
            self.assertEqual(run_pile(reader, web, 9), ended)
            self.assertEqual(run_pile(reader, web, ended[1]), ended)
            self.assertEqual(run_pile(reader, web, ended[1] - 1), ('more', ended[1] - 1, ended[2]))

    def test_how_many_steps(self):
        """Just at the end, one step ahead of it, and behind it."""
        web = Web('places 2')
        for rows, ended in (('call 1 | let', ('let', 2, 1)), ('up a | refuse', ('refused', 2, 0)), ('up a | up a', ('refused', 2, 0)),
                            ('set a 2', ('refused', 1, 0)), ('set a 1 | back', ('refused', 2, 0)), ('let', ('let', 1, 0)),
                            ('call 2 | let | call 3 | back', ('let', 5, 2)), ('refuse', ('refused', 1, 0))):
            reader = pile(rows, 'a')
            for most in range(ended[1] + 3):
                kind, steps, deepest = run_pile(reader, web, most)
                if most < ended[1]:
                    self.assertEqual((kind, steps), ('more', most))
                    self.assertLessEqual(deepest, ended[2])
                else:
                    self.assertEqual((kind, steps, deepest), ended)
        self.assertEqual(run_pile(pile('call 1 | let'), web, 0), ('more', 0, 0))
        self.assertEqual(run_pile(pile('call 1 | let'), web, 1), ('more', 1, 1))

    def test_numbers(self):
        reader, web = pile('go 0'), Web('places 2')
        self.assertEqual(run_pile(reader, web, 1000000), ('more', 1000000, 0))
        self.assertEqual(run_pile(pile('call 0'), web, 1000000), ('more', 1000000, 1000000))
        for value in [*values(), -1, 1000001]:
            error, found = told(run_pile, reader, web, value)
            if type(value) is int and 0 <= value <= 1000000:
                self.assertEqual((error, found), (None, ('more', value, 0)))
            else:
                self.assertIs(error, BadNumber)
                self.assertIs(found, value)

    def test_arguments_by_name(self):
        reader, web = PileReader(text='room 1\nboxes\nlet'), Web('places 2')
        self.assertEqual(run_pile(most=3, web=web, reader=reader), ('let', 1, 0))


if __name__ == '__main__':
    unittest.main()
