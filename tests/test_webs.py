import itertools
import unittest
from unittest import mock

from contraryrolls import webs
from contraryrolls.errors import BadArrows, BadMarks, BadNames, BadNumber, BadOrder, BadWeb
from contraryrolls.readers import Reader
from contraryrolls.webs import (
    has_arrow, has_mark, moved_web, numbered_web, Web, web_number, web_text, webs_many)
from tests.kinds import strings_left_out, told, values

FOUR = ('a', 'b', 'c', 'd')


class Examples(unittest.TestCase):
    def test_point_4(self):
        web = Web('places 3\nmark red 0 2\narrow to 0-1 1-2')
        self.assertEqual([web.places, web.marks, web.arrows],
                         [3, (('red', (0, 2)),), (('to', ((0, 1), (1, 2))),)])
        self.assertEqual(
            [has_mark(web, 'red', 2), has_mark(web, 'to', 0), has_arrow(web, 'to', 1, 2),
             has_arrow(web, 'to', 2, 1), has_arrow(web, 'to', True, 2)],
            [True, False, True, False, False])
        self.assertEqual(web_text(2, (('a', ()), ('b', (1,))), ()), 'places 2\nmark a\nmark b 1')
        nine = numbered_web(2, ('m',), ('a',), 9)
        self.assertEqual([webs_many(2, ('m',), ('a',)), web_text(2, nine.marks, nine.arrows)],
                         [64, 'places 2\nmark m 0\narrow a 0-1'])
        self.assertEqual([web_number(nine), moved_web(web, (2, 0, 1)).marks, moved_web(web, (2, 0, 1)).arrows],
                         [9, (('red', (1, 2)),), (('to', ((0, 1), (2, 0))),)])


class Webs(unittest.TestCase):
    def test_lines_in_any_sequence(self):
        lines = ['mark b 1', 'arrow z 0-0', 'mark a', 'arrow a 0-1 1-0']
        for row in itertools.permutations(lines):
            text = '\n'.join(['places 2', *row])
            web = Web(text)
            self.assertIs(web.text, text)
            self.assertEqual(web.places, 2)
            self.assertEqual(web.marks, (('a', ()), ('b', (1,))))
            self.assertEqual(web.arrows, (('a', ((0, 1), (1, 0))), ('z', ((0, 0),))))
            self.assertEqual(web, Web('\n'.join(['places 2', *lines])))

    def test_nothing_but_places(self):
        for many in range(2, 61):
            web = Web(f'places {many}')
            self.assertEqual((web.places, web.marks, web.arrows), (many, (), ()))

    def test_kinds_of_what_is_told(self):
        web = Web('places 60\nmark m 0 59\narrow m 0-59 59-0\nmark e\narrow e')
        self.assertIs(type(web.places), int)
        self.assertEqual(web.marks, (('e', ()), ('m', (0, 59))))
        self.assertEqual(web.arrows, (('e', ()), ('m', ((0, 59), (59, 0)))))
        self.assertEqual([type(place) for place in web.marks[1][1]], [int, int])
        self.assertEqual([type(place) for pair in web.arrows[1][1] for place in pair], [int] * 4)

    def test_four_marks_and_four_arrows_with_all_places(self):
        spots = ' '.join(str(place) for place in range(60))
        pairs = ' '.join(f'{one}-{other}' for one in range(60) for other in range(60))
        lines = [f'mark {name} {spots}' for name in FOUR] + [f'arrow {name} {pairs}' for name in FOUR]
        web = Web('\n'.join(['places 60'] + lines[::-1]))
        self.assertEqual(web.marks, tuple((name, tuple(range(60))) for name in FOUR))
        every = tuple(itertools.product(range(60), repeat=2))
        self.assertEqual(web.arrows, tuple((name, every) for name in FOUR))

    def test_names(self):
        web = Web('places 2\nmark abcdefgh 0\nmark z\nmark mark\nmark places\narrow mark\narrow arrow')
        self.assertEqual([name for name, _ in web.marks], ['abcdefgh', 'mark', 'places', 'z'])
        self.assertEqual([name for name, _ in web.arrows], ['arrow', 'mark'])

    def test_equal(self):
        texts = [
            'places 2', 'places 3', 'places 2\nmark a', 'places 2\nmark b', 'places 2\nmark a 0',
            'places 2\narrow a', 'places 2\narrow a 0-1', 'places 2\narrow a 1-0', 'places 2\nmark a\narrow a',
        ]
        for one, other in itertools.product(texts, repeat=2):
            self.assertEqual(Web(one) == Web(other), one == other)
            self.assertEqual(Web(one) != Web(other), one != other)
        self.assertTrue(Web('places 2\nmark a\nmark b') == Web('places 2\nmark b\nmark a'))
        self.assertFalse(Web('places 2\nmark a\nmark b') != Web('places 2\nmark b\nmark a'))

    def test_equal_to_nothing_else(self):
        web = Web('places 2\nmark a')
        others = [value for value in values() if not isinstance(value, Web)]
        for other in others + [web.text, (2, web.marks, web.arrows), mock.ANY, Reader('room 1\nboxes\nlet')]:
            self.assertIs(web == other, False)
            self.assertIs(web != other, True)


class BadTexts(unittest.TestCase):
    def bad(self, text, number):
        with self.subTest(text=text):
            self.assertEqual(told(Web, text), (BadWeb, number))

    def test_no_strings(self):
        for value in strings_left_out(values()):
            self.bad(value, 0)
        self.bad(b'places 2', 0)

    def test_first_lines(self):
        for line in ['', ' ', 'places', 'places ', 'places 2 ', ' places 2', 'places  2', 'places 2 3', 'place 2',
                     'Places 2', 'places 1', 'places 0', 'places 61', 'places -2', 'places +2', 'places 02',
                     'places 2.0', 'places two', 'places 1000000000', 'places 0000000002', 'places 2_0', 'mark a',
                     'places\t2', 'places 2\r', 'mark a 0', 'arrow a', 'places a']:
            self.bad(line, 1)
            self.bad(line + '\nmark a', 1)
            self.bad(line + '\nno', 1)

    def test_later_lines(self):
        for line in ['', ' ', 'places 3', 'mark', 'mark ', 'mark  a', 'mark a ', 'mark a 0 ', 'mark a  0', ' mark a',
                     'mark A', 'mark a1', 'mark abcdefghi', 'mark a-b', 'mark 0', 'mark \u00e9', 'Mark a', 'marks a',
                     'mark a 3', 'mark a -1', 'mark a 00', 'mark a 01', 'mark a +1', 'mark a 1 0', 'mark a 1 1',
                     'mark a 0 2 1', 'mark a 0 0 1', 'mark a b', 'mark a 0-1', 'mark a 1000000000', 'mark a 1.0',
                     'mark a True', 'mark a 0,1', 'mark a 0\t1', 'reader a', 'a', 'mark a 0000000001']:
            self.bad('places 3\n' + line, 2)
            self.bad('places 3\n' + line + '\nmark', 2)
            self.bad('places 3\nmark z 0\narrow a 2-0\n' + line + '\n', 4)

    def test_lines_with_arrows(self):
        for line in ['arrow', 'arrow ', 'arrow a ', 'arrow a  0-1', 'arrow a 0-1 ', 'arrow a 0', 'arrow a 0-',
                     'arrow a -0', 'arrow a -', 'arrow a 0-1-2', 'arrow a 0--1', 'arrow a -1-0', 'arrow a 0-3',
                     'arrow a 3-0', 'arrow a 0-01', 'arrow a 00-1', 'arrow a 0-+1', 'arrow a 0 -1', 'arrow a 0- 1',
                     'arrow a 0-1 0-1', 'arrow a 0-1 0-0', 'arrow a 1-0 0-1', 'arrow a 0-1 1-0 0-2', 'arrow A',
                     'arrow abcdefghi', 'arrow a 0-1000000000', 'arrow a 0_1', 'arrow 0-1', 'arrows a', 'arrow a 0->1']:
            self.bad('places 3\n' + line, 2)
            self.bad('places 3\narrow z 0-0\nmark a 2\n' + line + '\n', 4)

    def test_places_as_numbers_not_as_words(self):
        self.assertEqual(Web('places 12\nmark a 2 10\narrow a 2-11 10-3').marks, (('a', (2, 10)),))
        self.bad('places 12\nmark a 10 2', 2)
        self.bad('places 12\narrow a 10-3 2-11', 2)

    def test_empty_line_behind_a_line_feed(self):
        self.bad('places 2\n', 2)
        self.bad('places 2\nmark a\n', 3)
        self.bad('places 2\n\nmark a', 2)
        self.bad('\nplaces 2', 1)

    def test_names_twice(self):
        self.bad('places 2\nmark a 0\nmark a 1', 3)
        self.bad('places 2\narrow a\nmark a\narrow b\narrow a', 5)
        self.bad('places 2\nmark a\nmark a', 3)

    def test_a_fifth_line(self):
        marks = [f'mark {name}' for name in 'abcde']
        arrows = [f'arrow {name}' for name in 'abcde']
        self.bad('\n'.join(['places 2'] + marks), 6)
        self.bad('\n'.join(['places 2'] + arrows), 6)
        self.bad('\n'.join(['places 2'] + marks[:4] + arrows), 10)
        self.bad('\n'.join(['places 2'] + arrows[:4] + marks + ['no']), 10)

    def test_a_second_line_places(self):
        self.bad('places 2\nplaces 2', 2)
        self.bad('places 2\nmark a\nplaces 2', 3)

    def test_the_first_one_counts(self):
        self.bad('places 1\nmark a 7\nno', 1)
        self.bad('places 2\nmark a 7\nno', 2)
        self.bad('places 2\nmark a\nno\nmark a 7', 3)


class Asked(unittest.TestCase):
    def setUp(self):
        self.web = Web('places 3\nmark red 0 2\nmark to\narrow to 0-1 1-1\narrow red 2-0\narrow none')

    def test_marks(self):
        for name, place in itertools.product(['red', 'to', 'none', 'blue'], range(-1, 5)):
            self.assertIs(has_mark(self.web, name, place), (name, place) in [('red', 0), ('red', 2)])

    def test_arrows(self):
        so = [('to', 0, 1), ('to', 1, 1), ('red', 2, 0)]
        for asked in itertools.product(['red', 'to', 'none', 'blue'], range(-1, 5), range(-1, 5)):
            self.assertIs(has_arrow(self.web, *asked), asked in so)

    def test_any_values(self):
        for value in values():
            is_place = value in (0, 2) and type(value) is int
            self.assertIs(has_mark(self.web, 'red', value), is_place)
            self.assertIs(has_mark(self.web, value, 0), isinstance(value, str) and value == 'red')
            self.assertIs(has_mark(self.web, value, value), False)
            self.assertIs(has_arrow(self.web, value, 2, 0), isinstance(value, str) and value == 'red')
            self.assertIs(has_arrow(self.web, 'to', value, 1), type(value) is int and value in (0, 1))
            self.assertIs(has_arrow(self.web, 'to', 1, value), type(value) is int and value == 1)
            self.assertIs(has_arrow(self.web, value, value, value), False)

    def test_bools_and_pairs_are_no_places(self):
        for name, one, other in [('to', False, 1), ('to', 0, True), ('to', True, True), ('red', 2, False),
                                 ('to', (0, 1), None), ('to', '0', '1'), (('to',), 0, 1)]:
            self.assertIs(has_arrow(self.web, name, one, other), False)
        self.assertIs(has_mark(self.web, 'red', False), False)


class Texts(unittest.TestCase):
    def test_to_the_letter(self):
        marks = (('a', ()), ('red', (0, 2, 11)))
        arrows = (('a', ((0, 0), (2, 10), (10, 2))), ('b', ()))
        self.assertEqual(web_text(12, marks, arrows),
                         'places 12\nmark a\nmark red 0 2 11\narrow a 0-0 2-10 10-2\narrow b')
        self.assertEqual(web_text(2, (), ()), 'places 2')
        self.assertEqual(web_text(60, (), (('z', ()),)), 'places 60\narrow z')

    def test_there_and_back(self):
        web = Web('places 3\narrow b 2-0\nmark d\nmark a 0 1 2\narrow a 0-0 0-2\nmark c 1\nmark b')
        text = web_text(web.places, web.marks, web.arrows)
        self.assertEqual(text, 'places 3\nmark a 0 1 2\nmark b\nmark c 1\nmark d\narrow a 0-0 0-2\narrow b 2-0')
        self.assertEqual(Web(text), web)

    def test_bad_numbers(self):
        for value in values() + [1, 0, 61, '2', 2.0, -2]:
            if not (type(value) is int and 2 <= value <= 60):
                kind, kept = told(web_text, value, [], {})
                self.assertIs(kind, BadNumber)
                self.assertIs(kept, value)
        self.assertEqual(told(web_text, 2, (), ()), (None, 'places 2'))

    def test_bad_marks(self):
        wrong = [
            [('a', ())], (['a', ()],), (('a', []),), (('a',),), (('a', (), ()),), ('a',), ('ab',), ((),), (('A', ()),),
            ((1, ()),), ((None, ()),), (('', ()),), (('abcdefghi', ()),), (('a', (True,)),), (('a', (False, 1)),),
            (('a', (3,)),), (('a', (-1,)),), (('a', (1, 0)),), (('a', (1, 1)),), (('a', ('0',)),), (('a', 0),),
            (('a', ((0, 1),)),), (('b', ()), ('a', ())), (('a', ()), ('a', (1,))), (('a', (None,)),), (('a', {}),),
            tuple((name, ()) for name in 'abcde'), (('a', ()), ['b', ()]), (('a', ()), None), ((['a'], ()),),
            (('a', (0, 2, 1)),), (('a', (0,)), ('b', (7,))), (('a', (0, 1.0)),), (('a', (10 ** 39,)),),
        ]
        for value in wrong + [value for value in values() if value != ()]:
            kind, kept = told(web_text, 3, value, [])
            self.assertIs(kind, BadMarks, value)
            self.assertIs(kept, value)
        four = tuple((name, (0, 1, 2)) for name in FOUR)
        self.assertIs(told(web_text, 3, four, ())[0], None)

    def test_bad_arrows(self):
        wrong = [
            [('a', ())], (['a', ()],), (('a', []),), (('a',),), (('a', (), ()),), ('a',), (('A', ()),), ((1, ()),),
            (('a', (0,)),), (('a', ([0, 1],)),), (('a', ((0,),)),), (('a', ((0, 1, 2),)),), (('a', ((0, 3),)),),
            (('a', ((3, 0),)),), (('a', ((-1, 0),)),), (('a', ((0, True),)),), (('a', ((False, 0),)),),
            (('a', ((0, 1), (0, 1))),), (('a', ((0, 1), (0, 0))),), (('a', ((1, 0), (0, 1))),), (('a', ('01',)),),
            (('b', ()), ('a', ())), (('a', ()), ('a', ())), tuple((name, ()) for name in 'abcde'), (('a', (None,)),),
            (('a', ((0, '1'),)),), (('a', ((0, None),)),), (('a', (0, 1)),), (('a', ((0, 1), (1, 1), (1, 0))),),
        ]
        for value in wrong + [value for value in values() if value != ()]:
            kind, kept = told(web_text, 3, (), value)
            self.assertIs(kind, BadArrows, value)
            self.assertIs(kept, value)
        four = tuple((name, ((0, 0), (0, 2), (1, 0))) for name in FOUR)
        self.assertIs(told(web_text, 3, (), four)[0], None)

    def test_the_first_one_listed(self):
        self.assertEqual(told(web_text, 1, 2, 3), (BadNumber, 1))
        self.assertEqual(told(web_text, 2, 2, 3), (BadMarks, 2))
        self.assertEqual(told(web_text, 2, (), 3), (BadArrows, 3))
        self.assertEqual(told(web_text, 2, (('a', (2,)),), ()), (BadMarks, (('a', (2,)),)))
        self.assertEqual(told(web_text, 2, (), (('a', ((0, 2),)),)), (BadArrows, (('a', ((0, 2),)),)))


class Numbers(unittest.TestCase):
    def test_how_many(self):
        self.assertEqual(webs_many(2, (), ()), 1)
        self.assertEqual(webs_many(60, (), ()), 1)
        self.assertEqual(webs_many(3, ('a',), ()), 8)
        self.assertEqual(webs_many(3, (), ('a',)), 512)
        self.assertEqual(webs_many(3, ('a', 'b'), ('a', 'b')), 2 ** 24)
        self.assertEqual(webs_many(60, FOUR, FOUR), 2 ** (4 * 60 + 4 * 3600))

    def test_all_numbers_of_small_kinds(self):
        for places, marks, arrows in [(2, (), ()), (2, ('m',), ()), (3, ('a', 'b'), ()), (2, (), ('a',)),
                                      (2, ('a', 'b'), ('a', 'z')), (3, (), ('to',)), (2, ('x',), ('a', 'b')),
                                      (4, FOUR[:2], ())]:
            many = webs_many(places, marks, arrows)
            texts = {}
            for number in range(many):
                web = numbered_web(places, marks, arrows, number)
                self.assertEqual(web_number(web), number)
                self.assertEqual(tuple(name for name, _ in web.marks), marks)
                self.assertEqual(tuple(name for name, _ in web.arrows), arrows)
                self.assertEqual(web.places, places)
                self.assertEqual(web.text, web_text(web.places, web.marks, web.arrows))
                texts[web.text] = number
            self.assertEqual(len(texts), many)

    def test_each_figure(self):
        marks, arrows = ('m', 'n'), ('a', 'b')
        spots = [('mark', name, place) for name in marks for place in range(3)]
        spots += [('arrow', name, one, other) for name in arrows for one in range(3) for other in range(3)]
        for at, (word, *spot) in enumerate(spots):
            web = numbered_web(3, marks, arrows, 2 ** at)
            self.assertEqual(sum(len(row) for _, row in web.marks + web.arrows), 1)
            self.assertTrue(has_mark(web, *spot) if word == 'mark' else has_arrow(web, *spot))

    def test_great_kinds(self):
        many = webs_many(60, FOUR, FOUR)
        first, last = numbered_web(60, FOUR, FOUR, 0), numbered_web(60, FOUR, FOUR, many - 1)
        self.assertEqual(first.marks + first.arrows, tuple((name, ()) for name in FOUR + FOUR))
        self.assertEqual(last.marks, tuple((name, tuple(range(60))) for name in FOUR))
        every = tuple(itertools.product(range(60), repeat=2))
        self.assertEqual(last.arrows, tuple((name, every) for name in FOUR))
        for number in [0, 1, many - 1, many - 2, many // 2, many // 3, many // 7 * 5, 10 ** 39]:
            self.assertEqual(web_number(numbered_web(60, FOUR, FOUR, number)), number)
        top = numbered_web(60, FOUR, FOUR, many // 2)
        self.assertEqual(top.arrows[3], ('d', ((59, 59),)))
        self.assertEqual(sum(len(row) for _, row in top.marks + top.arrows), 1)

    def test_number_of_any_text(self):
        self.assertEqual(web_number(Web('places 2\narrow a 0-1\nmark m 0')), 9)
        self.assertEqual(web_number(Web('places 2\nmark n 0\nmark m 1')), 2 + 4)
        self.assertEqual(web_number(Web('places 60')), 0)

    def test_bad_arguments(self):
        for call, rest in [(webs_many, ()), (numbered_web, (0,))]:
            for value in values():
                if not (type(value) is int and 2 <= value <= 60):
                    kind, kept = told(call, value, [], [], *rest)
                    self.assertIs(kind, BadNumber)
                    self.assertIs(kept, value)
            wrong = [['a'], ('b', 'a'), ('a', 'a'), ('a', 1), (True,), (None,), ('A',), ('',), ('abcdefghi',),
                     ('a', 'b', 'c', 'd', 'e'), 'a', 'ab', ('a1',), (('a',),), (['a'],), ('a', ['b']), {'a': 1}]
            for value in wrong + [value for value in values() if value not in ((), ('a',))]:
                kind, kept = told(call, 2, value, 0, *rest)
                self.assertIs(kind, BadNames, value)
                self.assertIs(kept, value)
                kind, kept = told(call, 2, (), value, *rest)
                self.assertIs(kind, BadNames, value)
                self.assertIs(kept, value)

    def test_bad_number_of_a_web(self):
        for value in values() + ['0', 8, -1, 0.0, [3]]:
            if not (type(value) is int and 0 <= value < 8):
                kind, kept = told(numbered_web, 3, ('a',), (), value)
                self.assertIs(kind, BadNumber)
                self.assertIs(kept, value)
        for number in range(8):
            self.assertIs(told(numbered_web, 3, ('a',), (), number)[0], None)
        self.assertEqual(told(numbered_web, 2, (), (), 1), (BadNumber, 1))
        many = webs_many(60, FOUR, FOUR)
        kind, kept = told(numbered_web, 60, FOUR, FOUR, many)
        self.assertIs(kind, BadNumber)
        self.assertEqual(kept, many)

    def test_the_first_one_listed(self):
        self.assertEqual(told(numbered_web, 61, 2, 3, -4), (BadNumber, 61))
        self.assertEqual(told(numbered_web, 2, 2, 3, -4), (BadNames, 2))
        self.assertEqual(told(numbered_web, 2, (), 3, -4), (BadNames, 3))
        self.assertEqual(told(numbered_web, 2, (), (), -4), (BadNumber, -4))


class Moved(unittest.TestCase):
    def test_all_orders(self):
        web = Web('places 4\nmark red 0 2\nmark blue\narrow to 0-1 1-2 3-3\narrow far 2-0')
        for order in itertools.permutations(range(4)):
            moved = moved_web(web, order)
            self.assertEqual(moved.text, web_text(moved.places, moved.marks, moved.arrows))
            self.assertEqual([moved.places, [name for name, _ in moved.marks], [name for name, _ in moved.arrows]],
                             [4, ['blue', 'red'], ['far', 'to']])
            for name, place in itertools.product(['red', 'blue'], range(4)):
                self.assertEqual(has_mark(moved, name, order[place]), has_mark(web, name, place))
            for name, one, other in itertools.product(['to', 'far'], range(4), range(4)):
                self.assertEqual(has_arrow(moved, name, order[one], order[other]), has_arrow(web, name, one, other))
            back = tuple(order.index(place) for place in range(4))
            self.assertEqual(moved_web(moved, back), web)

    def test_text_is_made_anew(self):
        web = Web('places 2\narrow a 0-1\nmark b 1\nmark a')
        self.assertEqual(moved_web(web, (0, 1)).text, 'places 2\nmark a\nmark b 1\narrow a 0-1')
        self.assertEqual(moved_web(web, (1, 0)).text, 'places 2\nmark a\nmark b 0\narrow a 1-0')
        self.assertEqual(web.text, 'places 2\narrow a 0-1\nmark b 1\nmark a')

    def test_sixty_places(self):
        web = Web('places 60\narrow to 0-59 58-1\nmark m 0 1')
        moved = moved_web(web, tuple(range(59, -1, -1)))
        self.assertEqual([moved.marks, moved.arrows], [(('m', (58, 59)),), (('to', ((1, 58), (59, 0))),)])

    def test_bad_orders(self):
        web = Web('places 3\nmark a 0')
        wrong = [[0, 1, 2], (0, 1), (0, 1, 2, 2), (0, 1, 2, 3), (0, 1, 1), (1, 2, 3), (-1, 0, 1), (False, True, 2),
                 (0, True, 2), (0, 1, '2'), (0, 1, None), ('0', '1', '2'), (0, 1, (2,)), (0, 1, 2.0), '012', ({}, 0, 1)]
        for value in wrong + values():
            kind, kept = told(moved_web, web, value)
            self.assertIs(kind, BadOrder, value)
            self.assertIs(kept, value)


class ByName(unittest.TestCase):
    def test_in_another_sequence(self):
        web = Web(text='places 3\nmark m 1\narrow a 0-2')
        self.assertEqual(web, Web('places 3\nmark m 1\narrow a 0-2'))
        self.assertIs(has_mark(place=1, name='m', web=web), True)
        self.assertIs(has_arrow(other=2, one=0, name='a', web=web), True)
        self.assertEqual(web_text(arrows=web.arrows, places=3, marks=web.marks), web.text)
        self.assertEqual(webs_many(arrows=('a',), marks=('m', 'n'), places=2), 256)
        self.assertEqual(numbered_web(number=9, arrows=('a',), marks=('m',), places=2),
                         numbered_web(2, ('m',), ('a',), 9))
        self.assertEqual(web_number(web=numbered_web(2, ('m',), ('a',), 9)), 9)
        self.assertEqual(moved_web(order=(1, 2, 0), web=web), moved_web(web, (1, 2, 0)))

    def test_defined_in_this_file(self):
        for name in ['Web', 'has_mark', 'has_arrow', 'web_text', 'webs_many', 'numbered_web', 'web_number',
                     'moved_web']:
            self.assertEqual(getattr(webs, name).__module__, 'contraryrolls.webs')


if __name__ == '__main__':
    unittest.main()
