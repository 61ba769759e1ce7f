import itertools
import random
import unittest
from unittest import mock

from contraryrolls import sayings
from contraryrolls.errors import BadNames, BadSaying, TooGreat
from contraryrolls.sayings import contrary_saying, pushed, Saying
from contraryrolls.webs import Web
from tests.kinds import strings_left_out, told, values
from tests.plainsayings import drawn_saying, plain_bad, plain_tokens, spaced, WORDS

FREE = ('a', 'b')
# A saying of each form with these free names, its tree, and depth, ways, binders, width and len.
FORMS = {
    '(arrow to a b)': (('arrow', 'to', 'a', 'b'), 0, 0, 0, 2, 1),
    '(mark not b)': (('mark', 'not', 'b'), 0, 0, 0, 2, 1),
    '(same a a)': (('same', 'a', 'a'), 0, 0, 0, 2, 1),
    '(less b a)': (('less', 'b', 'a'), 0, 0, 0, 2, 1),
    '(first a)': (('first', 'a'), 0, 0, 0, 2, 1),
    '(last b)': (('last', 'b'), 0, 0, 0, 2, 1),
    '(not (last b))': (('not', ('last', 'b')), 0, 0, 0, 2, 2),
    '(and (last b) (first a))': (('and', ('last', 'b'), ('first', 'a')), 0, 0, 0, 2, 3),
    '(or (last b) (first a) (last a))': (('or', ('last', 'b'), ('first', 'a'), ('last', 'a')), 0, 0, 0, 2, 4),
    '(some x (same x a))': (('some', 'x', ('same', 'x', 'a')), 0, 0, 1, 3, 2),
    '(all x (some y (arrow r x y)))': (('all', 'x', ('some', 'y', ('arrow', 'r', 'x', 'y'))), 0, 0, 2, 4, 3),
    '(many 7 x (last x))': (('many', 7, 'x', ('last', 'x')), 0, 0, 1, 3, 2),
    '(even x (less x a))': (('even', 'x', ('less', 'x', 'a')), 0, 0, 1, 3, 2),
    '(way (x) (y) (arrow r x y) (a) (b))':
        (('way', ('x',), ('y',), ('arrow', 'r', 'x', 'y'), ('a',), ('b',)), 1, 1, 0, 4, 2),
    '(way (x y) (u v) (and (same x u) (less y v)) (a a) (b a))':
        (('way', ('x', 'y'), ('u', 'v'), ('and', ('same', 'x', 'u'), ('less', 'y', 'v')), ('a', 'a'), ('b', 'a')),
         1, 1, 0, 6, 4),
}


class Example(unittest.TestCase):
    def test_point_9(self):
        ring = Saying('(some a (some b (and (arrow to a b) (way (x) (y) (arrow to x y) (b) (a)))))')
        self.assertEqual([ring.depth, ring.ways, ring.binders, ring.width, len(ring)], [1, 1, 2, 4, 6])
        self.assertEqual(pushed(Saying('(not (all x (or (mark red x) (not (last x)))))')).text,
                         '(some x (and (not (mark red x)) (last x)))')
        self.assertEqual(Saying('(even x (less x y))', ('y',)).tree, ('even', 'x', ('less', 'x', 'y')))
        self.assertEqual(contrary_saying(Saying('(not (first z))', ('z',))).text, '(not (not (first z)))')


class Sayings(unittest.TestCase):
    def test_each_form(self):
        for text, (tree, depth, ways, binders, width, many) in FORMS.items():
            saying = Saying(text, FREE)
            self.assertIs(saying.text, text)
            self.assertEqual(saying.names, FREE)
            self.assertEqual(saying.tree, tree)
            self.assertEqual((saying.depth, saying.ways, saying.binders, saying.width, len(saying)),
                             (depth, ways, binders, width, many), text)
            for number in (saying.depth, saying.ways, saying.binders, saying.width):
                self.assertIs(type(number), int)
        self.assertIs(type(Saying('(many 1 x (first x))').tree[1]), int)

    def test_names_that_are_words_of_forms(self):
        for text in ('(some x (first x))', '(some not (first not))', '(some some (first some))', '(all all (mark all all))',
                     '(some way (way (not) (and) (less not and) (way) (way)))', '(many 9 many (last many))',
                     '(some arrow (arrow arrow arrow arrow))', '(even even (same even even))'):
            self.assertEqual(spaced(plain_tokens(text)), text)
            self.assertEqual(Saying(text).text, text)
        self.assertEqual(Saying('(some not (first not))').tree, ('some', 'not', ('first', 'not')))
        self.assertEqual(Saying('(first first)', ('first',)).tree, ('first', 'first'))

    def test_free_names(self):
        self.assertEqual(Saying('(some x (first x))').names, ())
        saying = Saying('(last a)', ('d', 'a', 'c', 'b'))
        self.assertEqual((saying.names, saying.width), (('d', 'a', 'c', 'b'), 4))
        self.assertEqual(Saying('(some x (last x))', ('abcdefgh',)).width, 2)
        self.assertEqual(Saying(names=('q',), text='(last q)'), Saying('(last q)', ('q',)))

    def test_a_name_can_be_bound_again_behind_its_form(self):
        text = '(and (some x (first x)) (all x (last x)) (way (x) (y) (same x y) (a) (a)) (some y (some x (less x y))))'
        saying = Saying(text, ('a',))
        self.assertEqual((saying.width, saying.binders, saying.ways, saying.depth, len(saying)), (3, 4, 1, 1, 10))

    def test_depth(self):
        inner = '(way (x) (y) (same x y) (a) (b))'
        one = f'(way (p) (q) {inner} (a) (b))'
        for text, depth, ways in ((inner, 1, 1), (one, 2, 2), (f'(and {inner} {one} (not {inner}))', 2, 4),
                                  (f'(way (i) (j) (and {one} {inner}) (b) (b))', 3, 4)):
            saying = Saying(text, FREE)
            self.assertEqual((saying.depth, saying.ways), (depth, ways))

    def test_equal(self):
        texts = ['(last a)', '(first a)', '(not (last a))']
        pairs = [(text, names) for text in texts for names in (('a',), ('a', 'b'), ('b', 'a'))]
        for (one, names), (other, others) in itertools.product(pairs, repeat=2):
            same = (one, names) == (other, others)
            self.assertIs(Saying(one, names) == Saying(other, others), same)
            self.assertIs(Saying(one, names) != Saying(other, others), not same)
        saying = Saying('(some x (first x))')
        for other in values() + [saying.text, saying.tree, (saying.text, ()), mock.ANY, Web('places 2'), 2]:
            self.assertIs(saying == other, False)
            self.assertIs(saying != other, True)

    def test_400_forms(self):
        atoms = ' '.join(['(last a)'] * 399)
        self.assertEqual(len(Saying(f'(and {atoms})', ('a',))), 400)
        self.assertEqual(told(Saying, f'(and {atoms} (last a))', ('a',)), (TooGreat, 400))
        deep = '(not ' * 399 + '(last a)' + ')' * 399
        saying = Saying(deep, ('a',))
        tree, many = saying.tree, 0
        while tree[0] == 'not':
            tree, many = tree[1], many + 1
        self.assertEqual((len(saying), tree, many), (400, ('last', 'a'), 399))
        self.assertEqual(told(Saying, f'(not {deep})', ('a',)), (TooGreat, 400))
        self.assertEqual(told(Saying, '(not ' * 3000 + '(last a)' + ')' * 3000, ('a',)), (TooGreat, 400))
        # What is no saying is told first.
        self.assertEqual(told(Saying, '(not ' * 3000 + '(last a)' + ')' * 2999, ('a',)), (BadSaying, 2 * 3000 + 4 + 2999))
        self.assertEqual(told(Saying, f'(and {atoms} (last b))', ('a',)), (BadSaying, 2 + 4 * 399 + 2))
        self.assertEqual(told(Saying, '(not ' * 3000 + '(last a)' + ')' * 3001, ('a',)), (BadSaying, 2 * 3000 + 4 + 3000))

    def test_in_this_file(self):
        for name in ('Saying', 'pushed', 'contrary_saying'):
            self.assertEqual(getattr(sayings, name).__module__, 'contraryrolls.sayings')
        for name in ('__init__', '__eq__', '__len__'):
            self.assertIn(name, vars(Saying))


class BadTexts(unittest.TestCase):
    def bad(self, text, number, names=()):
        self.assertEqual(told(Saying, text, names), (BadSaying, number), text)

    def test_bad_names_ahead_of_all(self):
        for value in values() + [('a', 'b', 'c', 'd', 'e'), ('a', 'a'), ['a'], ('A',), ('a', 1), 'a', ('abcdefghi',), ('',),
                                 (None,), None, {'a': 1}]:
            if value in ((), ('a',)) and type(value) is tuple:
                continue
            for text in ('(last a)', 'X', 3):
                error, kept = told(Saying, text, value)
                self.assertIs(error, BadNames)
                self.assertIs(kept, value)

    def test_no_rows_of_tokens(self):
        for value in strings_left_out(values()) + [b'(first a)']:
            self.bad(value, -1, ('a',))
        for text in ('(first  a)', ' (first a)', '(first a) ', '( first a)', '(first a )', '(first x1)', '(many 12 x (last x))',
                     '(many 0 x (last x))', '(first X)', '(first abcdefghi)', '(first\na)', '(first\ta)', '(first a)(first a)',
                     '(not(first a))', '(and (first a)(last a))', '(first a)\n', ' ', '\n', '(first a-b)', '(first a,)', 'x(',
                     'a(b', ')a', '1a', '11', '(many 1  x', '[first a]', '(first a) )', '(first 1x)', '(first +1)', 'a\n', '( )',
                     '(first a_b)', '"', '(first a))x', '(many 1x (last x))'):
            self.bad(text, -1, ('a',))

    def test_rows_of_tokens_that_are_no_sayings(self):
        for text, number in (
                ('', 0), ('(', 1), (')', 0), ('a', 0), ('1', 0), ('()', 1), ('((', 1), ('(a', 1), ('(1', 1), ('(some', 2),
                ('(some x', 3), ('(some x)', 3), ('(some x (', 4), ('(some x (first', 5), ('(some x (first x', 6),
                ('(some x (first x)', 7), ('(some x (first x)))', 8), ('(some x (first x)) (', 8), ('(some x (first x)) x', 8),
                ('(some x (first y))', 5), ('(some x first x)', 3), ('(some 1 (first x))', 2), ('(some (x) (first x))', 2),
                ('(some x (first x) (first x))', 7), ('(some x (first x x))', 6), ('(some x (same x))', 6),
                ('(some x (less x x x))', 7), ('(some x (arrow x x))', 7), ('(some x (arrow 1 x x))', 5),
                ('(some x (arrow (r) x x))', 5), ('(some x (mark x))', 6), ('(some x (mark y y))', 6),
                ('(some x (many x (last x)))', 5), ('(some x (many 1 (last x)))', 6), ('(many 3 4 (last x))', 3),
                ('(not)', 2), ('(not (some x (first x)) (some x (first x)))', 10), ('(and)', 2),
                ('(and (some x (first x)))', 10), ('(or (some x (first x)) x)', 10), ('(or (some x (first x)', 9),
                ('(and (some x (first x)) (some x (first x)) 1)', 18), ('(nor', 1), ('(places', 1), ('(some x (some x (first x)))', 5)):
            self.bad(text, number)

    def test_where_no_name_is_bound_or_free(self):
        for word in ('arrow', 'mark', 'same', 'less', 'first', 'last', 'way'):
            self.bad(f'({word}', 1)
            self.bad(f'(not ({word} a))', 3)
            self.bad(f'(and (some x (first x)) ({word} x))', 11)
        self.bad('(arrow r a b)', 1)
        self.bad('(arrow', 2, ('a',))
        self.bad('(some', 2)
        for word in ('some', 'all', 'many', 'even', 'not', 'and', 'or'):
            self.bad(f'({word}', 2)

    def test_names_that_are_not_bound(self):
        self.bad('(first b)', 2, ('a',))
        self.bad('(some x (same x y))', 6)
        self.bad('(and (some x (first x)) (some y (first x)))', 15)
        self.bad('(arrow r a c)', 4, FREE)
        # Names of marks and arrows are not those of places.
        self.bad('(mark m m)', 3, FREE)

    def test_names_that_are_bound_or_free_already(self):
        self.bad('(some a (first a))', 2, ('a',))
        self.bad('(some x (all x (first x)))', 5)
        self.bad('(all x (many 2 x (first x)))', 6)
        self.bad('(all x (even x (first x)))', 5)
        self.bad('(way (a) (x) (same x x) (a) (a))', 3, ('a',))
        self.bad('(way (x) (a) (same x x) (a) (a))', 6, ('a',))
        self.bad('(way (x) (x) (same x x) (a) (a))', 6, ('a',))
        self.bad('(way (x x) (u v) (same x x) (a a) (a a))', 4, ('a',))
        self.bad('(way (x y) (u u) (same x x) (a a) (a a))', 8, ('a',))
        self.bad('(way (x y) (u x) (same x x) (a a) (a a))', 8, ('a',))
        self.bad('(way (x) (y) (some x (first x)) (a) (a))', 10, ('a',))

    def test_ways(self):
        good = '(way (x) (y) (same x y) (a) (a))'
        self.assertEqual(told(Saying, good, ('a',))[0], None)
        for text, number in (('(way x', 2), ('(way ()', 3), ('(way (x', 4), ('(way (x) x', 5), ('(way (x) ()', 6),
                             ('(way (x) (y z)', 7), ('(way (x y) (z)', 8), ('(way (x y z)', 5), ('(way (x) (y) (y)', 9),
                             ('(way (x) (y) x', 8), ('(way (x) (y) (same x y) a', 13), ('(way (x) (y) (same x y) (x)', 14),
                             ('(way (x) (y) (same x y) (a a)', 15), ('(way (x) (y) (same x y) (a))', 16),
                             ('(way (x) (y) (same x y) (a) (y)', 17), ('(way (x) (y) (same x y) (a) (a a)', 18),
                             ('(way (x) (y) (same x y) (a) (a) (a)', 19), ('(way (x) (y) (same x y) (a) (a', 18),
                             ('(way (x) (y) (same x y) (a) (a)', 19), ('(way (x y) (u v) (same x y) (a)', 17),
                             ('(way (x y) (u v) (same x y) (a a) (a)', 21), ('(way (x y) (u v) (same x y) (a a a', 18),
                             ('(way (1)', 3), ('(way (x) (y) (same x y) (1)', 14)):
            self.bad(text, number, ('a',))

    def test_against_a_plain_reading(self):
        draw = random.Random(1)
        found = set()
        for _ in range(4000):
            names = tuple(draw.sample(['x', 'y', 'a', 'not', 'q'], draw.choice([0, 0, 1, 2])))
            tokens = plain_tokens(drawn_saying(draw, list(names), draw.choice([1, 2, 3])))
            self.assertIsNone(plain_bad(tokens, names))
            self.assertEqual(Saying(spaced(tokens), names).text, spaced(tokens))
            for _ in range(3):
                at = draw.randrange(len(tokens) + 1)
                some = draw.choice(['(', ')', 'x', 'y', 'q', '1', '9', draw.choice(WORDS), draw.choice(tokens)])
                wrong = draw.choice([tokens[:at] + tokens[at + 1:], tokens[:at] + [some] + tokens[at:], tokens[:at],
                                     tokens[:at] + [some] + tokens[at + 1:]])
                number = plain_bad(wrong, names)
                found.add(number)
                if number is None:
                    self.assertEqual(Saying(spaced(wrong), names).text, spaced(wrong))
                else:
                    self.bad(spaced(wrong), number, names)
        self.assertGreater(len(found), 30)


class Pushed(unittest.TestCase):
    def test_each_rule(self):
        for text, result in (
                ('(not (first a))', '(not (first a))'), ('(first a)', '(first a)'), ('(not (not (first a)))', '(first a)'),
                ('(not (not (not (first a))))', '(not (first a))'), ('(not (not (not (not (last b)))))', '(last b)'),
                ('(not (and (first a) (last b)))', '(or (not (first a)) (not (last b)))'),
                ('(not (or (first a) (not (last b)) (same a b)))', '(and (not (first a)) (last b) (not (same a b)))'),
                ('(not (some x (mark m x)))', '(all x (not (mark m x)))'), ('(not (all x (mark m x)))', '(some x (not (mark m x)))'),
                ('(not (many 2 x (not (not (mark m x)))))', '(not (many 2 x (mark m x)))'),
                ('(not (even x (not (and (mark m x) (first x)))))', '(not (even x (or (not (mark m x)) (not (first x)))))'),
                ('(not (way (x) (y) (not (not (arrow r x y))) (a) (b)))', '(not (way (x) (y) (arrow r x y) (a) (b)))'),
                ('(way (x u) (y v) (not (or (same x y) (less u v))) (a b) (b b))',
                 '(way (x u) (y v) (and (not (same x y)) (not (less u v))) (a b) (b b))'),
                ('(not (some x (and (all y (less x y)) (not (not (or (first x) (last x)))))))',
                 '(all x (or (some y (not (less x y))) (and (not (first x)) (not (last x)))))'),
                ('(and (not (and (first a) (last a))) (or (first a) (last a)))',
                 '(and (or (not (first a)) (not (last a))) (or (first a) (last a)))'),
                ('(some not (not (not (first not))))', '(some not (first not))'),
                ('(not (some and (arrow or and and)))', '(all and (not (arrow or and and)))'),
                ('(many 3 x (not (some y (arrow r x y))))', '(many 3 x (all y (not (arrow r x y))))')):
            made = pushed(Saying(text, FREE))
            self.assertEqual((made.text, made.names), (result, FREE))

    def test_pushed_again_it_stays(self):
        draw = random.Random(2)
        for _ in range(1000):
            names = tuple(draw.sample(['x', 'a', 'not'], draw.choice([0, 1, 2])))
            made = pushed(Saying(drawn_saying(draw, list(names), 4), names))
            self.assertEqual(pushed(made), made)
            waiting = [made.tree]
            while waiting:
                tree = waiting.pop()
                waiting.extend(part for part in tree[1:] if isinstance(part, tuple) and part[0] in WORDS and len(part) > 1)
                if tree[0] == 'not' and isinstance(tree[1], tuple):
                    self.assertNotIn(tree[1][0], ('not', 'and', 'or', 'some', 'all'))

    def test_too_great(self):
        for many in (199, 200):
            atoms = ' '.join(['(last a)'] * many)
            saying = Saying(f'(not (and {atoms}))', ('a',))
            if 1 + 2 * many <= 400:
                self.assertEqual(len(pushed(saying)), 1 + 2 * many)
            else:
                self.assertEqual(told(pushed, saying), (TooGreat, 400))
        # In between there would be more than 400 of them.
        atoms = ' '.join(['(not (last a))'] * 199)
        self.assertEqual(len(pushed(Saying(f'(not (and {atoms}))', ('a',)))), 200)
        deep = '(not ' * 399 + '(last a)' + ')' * 399
        self.assertEqual(pushed(Saying(deep, ('a',))).text, '(not (last a))')
        atoms = ' '.join(['(last a)'] * 199)
        exact = Saying(f'(not (and {atoms} (not (last a))))', ('a',))
        self.assertEqual(len(pushed(exact)), 400)


class Contrary(unittest.TestCase):
    def test_to_the_letter(self):
        for text in list(FORMS) + ['(not (first a))', '(not (not (first a)))']:
            made = contrary_saying(Saying(text, FREE))
            self.assertEqual((made.text, made.names, len(made)), (f'(not {text})', FREE, len(Saying(text, FREE)) + 1))

    def test_too_great(self):
        for many, error in ((398, None), (399, TooGreat)):
            atoms = ' '.join(['(last a)'] * many)
            error_told, kept = told(contrary_saying, Saying(f'(or {atoms})', ('a',)))
            self.assertIs(error_told, error)
            self.assertEqual(kept if error else len(kept), 400)


class Calls(unittest.TestCase):
    def test_by_names(self):
        saying = Saying('(not (not (first a)))', ('a',))
        self.assertEqual(pushed(saying=saying), Saying('(first a)', ('a',)))
        self.assertEqual(contrary_saying(saying=saying), Saying('(not (not (not (first a))))', ('a',)))

    def test_unchanged_arguments(self):
        saying = Saying('(not (and (first a) (last a)))', ('a',))
        kept = (saying.text, saying.names, saying.tree, len(saying))
        self.assertEqual(pushed(saying), pushed(Saying(saying.text, ('a',))))
        contrary_saying(saying)
        self.assertEqual(kept, (saying.text, saying.names, saying.tree, len(saying)))


if __name__ == '__main__':
    unittest.main()
