import random
import unittest

from contraryrolls.errors import BadMaking, TooGreat
from contraryrolls.makings import made, Making
from contraryrolls.sayings import Saying
from contraryrolls.webs import Web, web_text
from tests.kinds import strings_left_out, told, values
from tests.plain import drawn_web
from tests.plainmakings import drawn_making, plain_made

LINES = ['mark m (x) (first x)', 'arrow r (x) (y) (arrow s y x)', 'mark r (y) (some x (arrow r x y))']
PAIRS = ['mark m (x y) (first x)', 'arrow r (x y) (u v) (arrow s y u)']


def making(*lines, wide=1):
    return Making('\n'.join([f'wide {wide}', *lines]))


class Example(unittest.TestCase):
    def test_point_11(self):
        web = Web('places 3\narrow to 0-1 1-2')
        back = Making('wide 1\nmark end (x) (not (some y (arrow to x y)))\narrow from (x) (y) (arrow to y x)')
        self.assertEqual([made(back, web).marks, made(back, web).arrows],
                         [(('end', (2,)),), (('from', ((1, 0), (2, 1))),)])
        pairs = Making('wide 2\narrow step (a b) (c d) (and (same b c) (arrow to a b))')
        self.assertEqual([made(pairs, web).places, made(pairs, web).arrows[0][1][:3]], [9, ((1, 3), (1, 4), (1, 5))])


class Makings(unittest.TestCase):
    def test_properties(self):
        one = making(*LINES)
        self.assertEqual((one.text, one.wide), ('\n'.join(['wide 1', *LINES]), 1))
        self.assertIs(type(one.wide), int)
        self.assertEqual(one.marks, (('m', Saying('(first x)', ('x',))), ('r', Saying('(some x (arrow r x y))', ('y',)))))
        self.assertEqual(one.arrows, (('r', Saying('(arrow s y x)', ('x', 'y'))),))
        two = making(*PAIRS, wide=2)
        self.assertEqual((two.wide, two.marks, two.arrows), (
            2, (('m', Saying('(first x)', ('x', 'y'))),), (('r', Saying('(arrow s y u)', ('x', 'y', 'u', 'v'))),)))
        self.assertEqual([saying.names for _, saying in two.marks + two.arrows], [('x', 'y'), ('x', 'y', 'u', 'v')])
        for kind in (one.marks, one.arrows, one.marks[0]):
            self.assertIs(type(kind), tuple)
        self.assertEqual((making().marks, making().arrows, making().text), ((), (), 'wide 1'))

    def test_any_sequence(self):
        for lines in (LINES, LINES[::-1], [LINES[1], LINES[2], LINES[0]]):
            self.assertEqual([name for name, _ in making(*lines).marks], ['m', 'r'])
        four = [f'{word} {name} {rest}' for word, rest in (('mark', '(x) (last x)'), ('arrow', '(x) (z) (less x z)'))
                for name in ('d', 'b', 'arrow', 'c')]
        one = making(*four)
        self.assertEqual([name for name, _ in one.marks + one.arrows], ['arrow', 'b', 'c', 'd'] * 2)

    def test_equal(self):
        one, same, other = making(*LINES), making(*LINES), making(*LINES[::-1])
        self.assertTrue(one == same and not one != same)
        self.assertTrue(one != other and not one == other)
        for value in [*values(), one.text]:
            self.assertFalse(one == value)
            self.assertTrue(one != value)

    def test_no_strings(self):
        for value in strings_left_out(values()):
            self.assertEqual(told(Making, value), (BadMaking, 0))

    def test_first_line(self):
        for line in ('', 'wide', 'wide 0', 'wide 3', 'wide 01', 'wide  1', 'wide 1 ', ' wide 1', 'wide x', 'Wide 1', 'wide 1 2',
                     'mark m (x) (first x)', 'wide +1', 'wide 11'):
            self.assertEqual(told(Making, line), (BadMaking, 1), line)
            self.assertEqual(told(Making, line + '\nmark'), (BadMaking, 1), line)

    def test_lines(self):
        forty = ' '.join(['(first x)'] * 399)
        for line in (
                '', 'wide 1', 'mark', 'mark m', 'mark m (x)', 'mark m (x) ', 'mark m (x)  (first x)', 'mark m  (x) (first x)',
                ' mark m (x) (first x)', 'mark m (x) (first x) ', 'mark m (x) (first y)', 'mark m (x y) (first x)',
                'mark m x (first x)', 'mark m (x (first x)', 'mark m x) (first x)', 'mark m ( x) (first x)', 'mark m () (first x)',
                'mark m (x)(first x)', 'mark m ((x)) (first x)', 'mark m (x)) (first x)', 'mark m (X) (first x)',
                'mark m (abcdefghi) (first abcdefghi)', 'mark M (x) (first x)', 'mark abcdefghi (x) (first x)', 'mark 1 (x) (first x)',
                'marks m (x) (first x)', 'mark m (x) (same x x) (first x)', 'mark m (x) (some x (first x))', 'mark m (x) first x',
                'arrow m (x) (first x)', 'arrow m (x) (x) (first x)', 'arrow m (x y) (first x)', 'arrow m (x) (y) (first z)',
                'arrow m (x)(y) (first x)', 'arrow m (x) y (first x)', 'arrow m (x) (y z) (first x)', 'arrow m (x) (y) (some y (first y))',
                'arrow m (x) (y) (z) (first x)', f'mark m (x) (and {forty} (first x))', 'mark m (1) (first x)', 'mark m (x) (first x',
                'mark m (x) (first  x)', 'mark m\t(x) (first x)', 'go'):
            self.assertEqual(told(making, line), (BadMaking, 2), line)
            self.assertEqual(told(making, *LINES, line, ''), (BadMaking, 5), line)
        self.assertEqual(len(making(f'mark m (x) (and {forty})').marks[0][1]), 400)

    def test_lines_of_pairs(self):
        for line in ('mark m (x) (first x)', 'mark m (x x) (first x)', 'mark m (x y z) (first x)', 'mark m (x) (y) (first x)',
                     'mark m (x  y) (first x)', 'mark m (x y (first x)', 'arrow r (x y) (first x)', 'arrow r (x y) (u) (first x)',
                     'arrow r (x y) (y z) (first x)', 'arrow r (x y) (u u) (first x)', 'arrow r (x y)(u v) (first x)',
                     'arrow r (x) (y) (first x)', 'arrow r (x y u v) (first x)', 'arrow r (x y) (u v) (some u (first u))'):
            self.assertEqual(told(lambda: making(PAIRS[0].replace(' m ', ' a '), line, wide=2)), (BadMaking, 3), line)

    def test_twice_and_too_many(self):
        self.assertEqual(told(making, LINES[0], LINES[2], LINES[0]), (BadMaking, 4))
        self.assertEqual(told(making, LINES[1], LINES[1]), (BadMaking, 3))
        marks = [f'mark {name} (x) (first x)' for name in 'abcde']
        arrows = [f'arrow {name} (x) (y) (same x y)' for name in 'abcde']
        self.assertIsNone(told(making, *marks[:4], *arrows[:4])[0])
        self.assertEqual(told(making, *marks[:4], *arrows[:4], marks[4]), (BadMaking, 10))
        self.assertEqual(told(making, *marks[:4], *arrows), (BadMaking, 10))

    def test_an_empty_line_at_the_end(self):
        self.assertEqual(told(Making, 'wide 1\n'), (BadMaking, 2))
        self.assertEqual(told(making, *LINES, ''), (BadMaking, 5))


class Made(unittest.TestCase):
    def test_by_a_plain_reckoning(self):
        draw = random.Random(1)
        for _ in range(300):
            one, web = drawn_making(draw, 2, 1), drawn_web(draw, draw.choice([2, 3]), ('m', 'q'), ('r', 's'))
            places, marks, arrows = plain_made(one, web)
            other = made(one, web)
            self.assertEqual((other.places, other.marks, other.arrows), (places, marks, arrows), one.text)
            self.assertEqual(other.text, web_text(places, marks, arrows))

    def test_more_places(self):
        draw = random.Random(2)
        for places, wide in ((4, 2), (5, 2), (6, 1), (9, 1)):
            one, web = drawn_making(draw, 1, 0, wide), drawn_web(draw, places)
            other = made(one, web)
            self.assertEqual((other.places, other.marks, other.arrows), plain_made(one, web))

    def test_what_is_nowhere(self):
        other = made(making('mark b (x) (mark m x)', 'mark a (x) (not (same x x))', 'arrow c (x) (y) (arrow q x y)'),
                     Web('places 2\nmark m 1\nmark z 0\narrow r 0-1'))
        self.assertEqual(other.text, 'places 2\nmark a\nmark b 1\narrow c')
        self.assertEqual(made(making(), Web('places 5\nmark m 1')).text, 'places 5')

    def test_the_highest_figure_first(self):
        other = made(making('mark m (x y) (and (first x) (last y))', 'arrow r (a b) (c d) (and (less a b) (less b c) (same a d))',
                            wide=2), Web('places 3'))
        self.assertEqual((other.marks, other.arrows), ((('m', (2,)),), (('r', ((1, 6),)),)))

    def test_too_many_places(self):
        one, two = making(*LINES), making(*PAIRS, wide=2)
        self.assertEqual(made(one, Web('places 60')).places, 60)
        self.assertEqual(made(two, Web('places 7')).places, 49)
        for places in (8, 9, 60):
            self.assertEqual(told(made, two, Web(f'places {places}')), (TooGreat, 60))

    def test_arguments_by_name(self):
        web = Web('places 3\nmark m 1')
        self.assertEqual(made(web=web, making=Making(text='wide 1')), made(making(), web))


if __name__ == '__main__':
    unittest.main()
