import itertools
import random
import time
import unittest

from contraryrolls import truths
from contraryrolls.errors import BadNames, BadNumber, BadPlaces, NotClosed, TooMany
from contraryrolls.sayings import contrary_saying, pushed, Saying
from contraryrolls.truths import first_parting, holds, rows_of, true_at
from contraryrolls.webs import has_arrow, numbered_web, Web, webs_many
from tests.kinds import told, values
from tests.plain import drawn_web
from tests.plainsayings import drawn_saying, plain_so

WEB = Web('places 4\nmark red 1 3\narrow to 0-1 1-2 2-0')
EMPTY = Web('places 2')
WAY = '(way (x) (y) (arrow to x y) (a) (b))'
AB = ('a', 'b')


def plain_rows(saying, web):
    return tuple(row for row in itertools.product(range(web.places), repeat=len(saying.names))
                 if plain_so(saying.tree, web, dict(zip(saying.names, row))))


class Example(unittest.TestCase):
    def test_point_9(self):
        ring = Saying('(some a (some b (and (arrow to a b) (way (x) (y) (arrow to x y) (b) (a)))))')
        self.assertEqual(
            [holds(ring, WEB), holds(Saying('(all a (all b ' + WAY + '))'), WEB), holds(Saying('(many 2 x (mark red x))'), WEB)],
            [True, False, True])
        self.assertEqual(rows_of(Saying('(and ' + WAY + ' (not (same a b)))', AB), WEB),
                         ((0, 1), (0, 2), (1, 0), (1, 2), (2, 0), (2, 1)))
        self.assertEqual([rows_of(Saying('(even x (less x y))', ('y',)), WEB), true_at(Saying('(last y)', ('y',)), WEB, (3,))],
                         [((0,), (2,)), True])


class Forms(unittest.TestCase):
    """Each form, by what has the right rows."""

    def rows(self, text, names, right, web=WEB):
        want = tuple(row for row in itertools.product(range(web.places), repeat=len(names)) if right(*row))
        self.assertEqual(rows_of(Saying(text, names), web), want, text)
        for row in itertools.product(range(web.places), repeat=len(names)):
            self.assertIs(true_at(Saying(text, names), web, row), row in want)

    def test_of_two_places(self):
        for web in (WEB, EMPTY, Web('places 3\narrow to 0-0 0-2 2-1')):
            self.rows('(arrow to a b)', AB, lambda a, b: has_arrow(web, 'to', a, b), web)
            self.rows('(arrow to b a)', AB, lambda a, b: has_arrow(web, 'to', b, a), web)
            self.rows('(arrow to a a)', AB, lambda a, b: has_arrow(web, 'to', a, a), web)
            self.rows('(arrow red a b)', AB, lambda a, b: False, web)
            self.rows('(same a b)', AB, lambda a, b: a == b, web)
            self.rows('(same b b)', AB, lambda a, b: True, web)
            self.rows('(less a b)', AB, lambda a, b: a < b, web)
            self.rows('(less b a)', AB, lambda a, b: b < a, web)
            self.rows('(less a a)', AB, lambda a, b: False, web)
            self.rows('(less c a)', ('a', 'b', 'c'), lambda a, b, c: c < a, web)

    def test_of_one_place(self):
        self.rows('(mark red b)', AB, lambda a, b: b in (1, 3))
        self.rows('(mark red a)', AB, lambda a, b: a in (1, 3))
        self.rows('(mark to a)', AB, lambda a, b: False)
        self.rows('(first a)', AB, lambda a, b: a == 0)
        self.rows('(last b)', AB, lambda a, b: b == 3)
        self.rows('(last b)', AB, lambda a, b: b == 1, EMPTY)

    def test_not_and_or(self):
        self.rows('(not (first a))', ('a',), lambda a: a != 0)
        self.rows('(and (mark red a) (not (last a)) (less a b))', AB, lambda a, b: a == 1 and b > 1)
        self.rows('(or (first a) (last b) (same a b))', AB, lambda a, b: a == 0 or b == 3 or a == b)

    def test_some_all_even(self):
        self.rows('(some x (arrow to a x))', ('a',), lambda a: a != 3)
        self.rows('(some x (and (less a x) (less x b)))', AB, lambda a, b: b - a > 1)
        self.rows('(all x (or (less x a) (mark red x) (last a)))', ('a',), lambda a: a == 3)
        self.rows('(all x (or (same a x) (mark red x) (first x)))', ('a',), lambda a: a == 2)
        self.rows('(even x (less x a))', ('a',), lambda a: a % 2 == 0)
        self.rows('(even x (mark blue x))', ('a',), lambda a: True)
        self.rows('(even x (arrow to x a))', ('a',), lambda a: a == 3)

    def test_many(self):
        for many in range(1, 10):
            self.rows(f'(many {many} x (less x a))', ('a',), lambda a: a >= many)
            self.rows(f'(many {many} x (same x x))', ('a',), lambda a: many <= 2, EMPTY)
            self.rows(f'(many {many} x (mark blue x))', ('a',), lambda a: False)

    def test_ways(self):
        self.rows(WAY, AB, lambda a, b: a == b or (a < 3 and b < 3))
        self.rows(WAY, AB, lambda a, b: a == b, EMPTY)
        self.rows('(way (x) (y) (arrow to y x) (a) (b))', AB, lambda a, b: a <= b, Web('places 3\narrow to 1-0 2-1'))
        # No step at all leads from a place to itself.
        self.rows('(way (x) (y) (first zero) (a) (b))', ('a', 'b', 'zero'), lambda a, b, zero: a == b or zero == 0)
        self.rows('(way (x) (y) (less x y) (a) (a))', ('a',), lambda a: True)
        # What is around a way may stand in its saying.
        self.rows('(way (x) (y) (and (arrow to x y) (not (same y c))) (a) (b))', ('a', 'b', 'c'),
                  lambda a, b, c: a == b or (a < 3 and b < 3 and not any(
                      (a + step) % 3 == c for step in range(1, (b - a) % 3 + 1))))

    def test_ways_of_two_names(self):
        chess = '(way (x u) (y v) (or (and (arrow to x y) (same u v)) (and (same x y) (arrow to v u))) (a b) (b a))'
        self.rows(chess, AB, lambda a, b: a == b or (a < 3 and b < 3))
        step = '(way (x u) (y v) (and (arrow to x y) (arrow to u v)) (a b) (c d))'
        self.rows(step, ('a', 'b', 'c', 'd'), lambda a, b, c, d: (a, b) == (c, d) or (
            max(a, b, c, d) < 3 and (c - a) % 3 == (d - b) % 3))

    def test_ways_within_ways(self):
        # From x to y by ways over unmarked places that are longer by one step.
        inner = '(way (p) (q) (arrow to p q) (x) (y))'
        self.rows(f'(way (x) (y) (and {inner} (less x y)) (a) (b))', AB, lambda a, b: a == b or a < b < 3)
        other = '(way (p) (q) (or (arrow to p q) (and (same p x) (same q y))) (q2) (q2))'.replace('q2', 'a')
        self.rows(f'(way (x) (y) (not {other}) (a) (b))', AB, lambda a, b: a == b)

    def test_against_a_plain_reckoning(self):
        draw = random.Random(1)
        so, tried, ways = 0, 0, 0
        while tried < 1500:
            names = tuple(draw.sample(['x', 'y', 'a', 'not'], draw.choice([0, 0, 1, 2])))
            saying = Saying(drawn_saying(draw, list(names), draw.choice([1, 2, 3, 4])), names)
            places = draw.randint(2, 3)
            if places ** saying.width > 300 or saying.depth > 1 and places > 2:
                continue
            web = drawn_web(draw, places)
            want = plain_rows(saying, web)
            tried, so, ways = tried + 1, so + bool(want), ways + saying.ways
            self.assertEqual(rows_of(saying, web), want, (saying.text, web.text))
            for row in itertools.product(range(places), repeat=len(names)):
                self.assertIs(true_at(saying, web, row), row in want)
            every = set(itertools.product(range(places), repeat=len(names)))
            self.assertEqual(rows_of(contrary_saying(saying), web), tuple(sorted(every - set(want))))
            error, made = told(pushed, saying)
            if error is None:
                self.assertEqual(rows_of(made, web), want)
            if not names:
                self.assertIs(holds(saying, web), want == ((),))
                self.assertIn(want, ((), ((),)))
        self.assertGreater(min(so, tried - so, ways), 200)


class Errors(unittest.TestCase):
    def test_not_closed(self):
        for names in (('a',), ('b', 'a'), ('a', 'x', 'y', 'z')):
            for text in ('(first a)', '(some q (last q))'):
                self.assertEqual(told(holds, Saying(text, names), WEB), (NotClosed, names))
        closed, free, other = Saying('(some x (first x))'), Saying('(last b)', ('b',)), Saying('(first a)', ('a',))
        self.assertEqual(told(first_parting, free, other, 1, 'no', 'no'), (NotClosed, ('b',)))
        self.assertEqual(told(first_parting, closed, other, 1, 'no', 'no'), (NotClosed, ('a',)))

    def test_bad_places(self):
        saying = Saying('(less a b)', AB)
        for value in values() + [(0, 4), (-1, 0), (0, True), (False, 1), [0, 1], (0,), (0, 1, 2), (0, None), ('0', 1), (0, '1'),
                                 (0, (1,)), '01', {0: 1}, (10 ** 39, 0), (1.0, 2)]:
            if value == (0, 1) and type(value) is tuple:
                continue
            error, kept = told(true_at, saying, WEB, value)
            self.assertIs(error, BadPlaces)
            self.assertIs(kept, value)
        self.assertIs(true_at(saying, WEB, (0, 3)), True)
        self.assertEqual(told(true_at, Saying('(some x (first x))'), WEB, (0,)), (BadPlaces, (0,)))
        self.assertIs(true_at(Saying('(some x (first x))'), WEB, ()), True)
        self.assertEqual(told(true_at, saying, EMPTY, (0, 2)), (BadPlaces, (0, 2)))

    def test_first_parting(self):
        closed = Saying('(some x (first x))')
        for value in values() + [61, 1, 2.0]:
            if type(value) is int and 2 <= value <= 60:
                continue
            error, kept = told(first_parting, closed, closed, value, 'no', 'no')
            self.assertIs(error, BadNumber)
            self.assertIs(kept, value)
        for value in values() + [('b', 'a'), ('a', 'a'), ('a', 'b', 'c', 'd', 'e'), ['a'], ('A',)]:
            if value in ((), ('a',)) and type(value) is tuple:
                continue
            for marks, arrows in ((value, 'no'), (('a', 'b', 'c', 'd'), value)):
                error, kept = told(first_parting, closed, closed, 60, marks, arrows)
                self.assertIs(error, BadNames)
                self.assertIs(kept, value)
        for places, marks, arrows in ((12, ('m',), ()), (3, ('m',), ('r',)), (60, ('a', 'b', 'c', 'd'), ('r',))):
            self.assertEqual(told(first_parting, closed, contrary_saying(closed), places, marks, arrows), (TooMany, 4096))


class Parting(unittest.TestCase):
    def test_the_first_web(self):
        one, other = Saying('(some x (mark m x))'), Saying('(many 2 x (mark m x))')
        web = first_parting(one, other, 3, ('m',), ())
        self.assertEqual((web, web.text), (numbered_web(2, ('m',), (), 1), 'places 2\nmark m 0'))
        three, two = Saying('(many 3 x (same x x))'), Saying('(some x (not (same x x)))')
        self.assertEqual(first_parting(three, two, 60, (), ()).text, 'places 3')
        self.assertIsNone(first_parting(three, two, 2, ('a', 'b'), ('r',)))
        self.assertIsNone(first_parting(one, one, 11, ('m',), ()))
        self.assertEqual(first_parting(one, contrary_saying(one), 2, ('m',), ()), numbered_web(2, ('m',), (), 0))

    def test_against_all_webs(self):
        draw = random.Random(3)
        found = 0
        for _ in range(60):
            texts = [drawn_saying(draw, [], 3) for _ in range(2)]
            one, other = [Saying(text) for text in texts]
            if max(one.width, other.width) > 6 or max(one.depth, other.depth) > 1:
                continue
            webs = [numbered_web(2, ('m',), ('r',), number) for number in range(webs_many(2, ('m',), ('r',)))]
            parting = [web for web in webs if plain_so(one.tree, web, {}) != plain_so(other.tree, web, {})]
            web = first_parting(one, other, 2, ('m',), ('r',))
            found += bool(parting)
            self.assertEqual(web, parting[0] if parting else None)
            self.assertEqual(web and web.text, parting[0].text if parting else None)
            self.assertIsNone(first_parting(one, Saying(f'(not (not {one.text}))'), 2, ('m',), ('r',)))
        self.assertGreater(found, 10)


class RunningTime(unittest.TestCase):
    def test_great_sayings_and_webs(self):
        begun = time.monotonic()
        line = 'arrow r ' + ' '.join(f'{at}-{at + 1}' for at in range(59))
        big = Web(f'places 60\nmark m 7\n{line}')
        self.assertIs(holds(Saying('(some a (some b (and (first a) (last b) (way (x) (y) (arrow r x y) (a) (b)))))'),
                            Web('places 23\narrow r ' + ' '.join(f'{at}-{at + 1}' for at in range(22)))), True)
        self.assertIs(holds(Saying('(some a (and (mark m a) (way (x) (y) (or (arrow r x y) (less x a)) (a) (a))))'), big), True)
        self.assertEqual(len(rows_of(Saying('(less a c)', ('a', 'b', 'c')), big)), 60 * 59 * 30)
        two = '(way (x u) (y v) (or (and (arrow r x y) (same u v)) (and (arrow r u v) (same x y))) (a a) (b b))'
        twelve = Web('places 8\narrow r ' + ' '.join(f'{at}-{at + 1}' for at in range(7)))
        self.assertIs(holds(Saying(f'(some a (some b (and (first a) (last b) {two})))'), twelve), True)
        atoms = ' '.join(f'(arrow r {one} {other})' for one in 'abc' for other in 'abc' for _ in range(44))
        self.assertIs(holds(Saying(f'(some a (some b (some c (or {atoms}))))'), big), True)
        names = [one + other for one in 'abcd' for other in 'abcde'][:18]
        deep = ''.join(f'(all {name} ' for name in names) + '(mark m aa)' + ')' * 18
        self.assertIs(holds(Saying(deep), Web('places 2\nmark m 0 1')), True)
        deep = '(not ' * 397 + '(first x)' + ')' * 397
        self.assertIs(holds(Saying(f'(some x {deep})'), big), True)
        self.assertLess(time.monotonic() - begun, 60)

    def test_many_webs(self):
        begun = time.monotonic()
        one = Saying('(all x (or (mark a x) (some y (and (arrow r x y) (mark d y)))))')
        self.assertIsNone(first_parting(one, Saying(f'(not {pushed(contrary_saying(one)).text})'), 2, ('a', 'b', 'c', 'd'), ('r',)))
        self.assertLess(time.monotonic() - begun, 60)


class Calls(unittest.TestCase):
    def test_by_names_and_in_this_file(self):
        closed, free = Saying('(some x (mark red x))'), Saying('(mark red a)', ('a',))
        self.assertIs(holds(web=WEB, saying=closed), True)
        self.assertIs(true_at(places=(1,), web=WEB, saying=free), True)
        self.assertEqual(rows_of(web=WEB, saying=free), ((1,), (3,)))
        self.assertEqual(first_parting(arrows=(), marks=('red',), places=2, other=Saying('(some x (first x))'), one=closed),
                         numbered_web(2, ('red',), (), 0))
        for call in (holds, true_at, rows_of, first_parting):
            self.assertEqual(call.__module__, 'contraryrolls.truths')
            self.assertIs(getattr(truths, call.__name__), call)

    def test_equal_calls_and_unchanged_arguments(self):
        saying, web = Saying(WAY, AB), Web(WEB.text)
        kept = (saying.text, saying.names, saying.tree, web.text, web.marks, web.arrows)
        self.assertEqual(rows_of(saying, web), rows_of(Saying(WAY, AB), WEB))
        self.assertEqual(kept, (saying.text, saying.names, saying.tree, web.text, web.marks, web.arrows))


if __name__ == '__main__':
    unittest.main()
