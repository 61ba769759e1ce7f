"""Readers of sayings, and rolls for them."""
import itertools
import random
import unittest
from unittest import mock

from contraryrolls import searches
from contraryrolls.errors import BadRoll, NotClosed, NotSo, TooGreat
from contraryrolls.plays import lets_web, play
from contraryrolls.sayings import contrary_saying, Saying
from contraryrolls.shown import counting_depth, reader_of
from contraryrolls.shownrolls import roll_for, shows_saying
from contraryrolls.truths import holds
from contraryrolls.webs import numbered_web, Web
from tests.kinds import told, values
from tests.plain import drawn_web, plain_lets, plain_play
from tests.plainsayings import drawn_saying

# Forms, and forms within one another; r is an arrow, m a mark, q one that no web has.
CLOSED = [
    '(some x (mark m x))', '(all x (mark m x))', '(some x (arrow r x x))', '(all x (some y (arrow r x y)))',
    '(some x (all y (arrow r x y)))', '(some x (some y (and (less x y) (arrow r y x))))',
    '(all x (all y (or (same x y) (arrow r x y) (mark m x))))', '(some x (and (first x) (mark m x)))',
    '(all x (or (not (last x)) (mark m x)))', '(many 1 x (mark m x))', '(many 2 x (mark m x))',
    '(many 3 x (first x))', '(many 9 x (same x x))', '(even x (mark m x))', '(even x (even y (arrow r x y)))',
    '(even x (first x))', '(many 2 x (even y (arrow r x y)))', '(even x (many 1 y (arrow r y x)))',
    '(some x (mark q x))', '(all x (all y (not (arrow q x y))))',
    '(some not (some way (and (less not way) (arrow r not way))))',
    '(and (some x (mark m x)) (or (some x (arrow r x x)) (all x (first x)) (even x (mark m x))))',
]
WAYS = [
    '(some a (some b (and (first a) (last b) (way (x) (y) (arrow r x y) (a) (b)))))',
    '(all a (all b (way (x) (y) (arrow r x y) (a) (b))))',
    '(all a (way (x) (y) (arrow q x y) (a) (a)))',
    '(some a (some b (way (x) (y) (and (mark m y) (arrow r y x)) (a) (b))))',
    '(some a (some b (and (less a b) (way (x u) (y v) (and (arrow r x y) (arrow r v u)) (a b) (b a)))))',
    '(all a (all b (way (x u) (y v) (or (and (same x u) (mark m y)) (arrow r u v)) (a a) (b b))))',
    '(all a (way (x u) (y v) (first v) (a a) (a a)))',
    '(even a (some b (and (last b) (way (x) (y) (arrow r x y) (a) (b)))))',
    '(all a (all b (way (x) (y) (even z (or (arrow r x z) (same z y))) (a) (b))))',
    '(some a (all b (way (x) (y) (way (u) (v) (and (arrow r u v) (mark m v)) (x) (y)) (b) (a))))',
    '(some a (some b (way (x) (y) (not (way (u) (v) (arrow r u v) (x) (y))) (a) (b))))',
    '(some a (some b (not (or (same a b) (way (x) (y) (not (way (u) (v) (arrow r u v) (y) (x))) (a) (b))))))',
    '(all a (not (many 2 b (way (x) (y) (or (arrow r x y) (mark q y)) (a) (b)))))',
]


def two_places():
    """All webs of two places with a mark and an arrow."""
    return [numbered_web(2, ('m',), ('r',), number) for number in range(64)]


def both_of(text):
    """A saying, with not ahead of it, and with two."""
    return [Saying(text), Saying(f'(not {text})'), Saying(f'(not (not {text}))')]


class Example(unittest.TestCase):
    def test_point_10(self):
        there = Saying('(some x (some y (and (first x) (last y) (way (u) (v) (arrow a u v) (x) (y)))))')
        none = contrary_saying(there)
        web, other = Web('places 3\narrow a 0-1 1-2'), Web('places 3\narrow a 0-1 2-1')
        self.assertEqual([shows_saying(there, web, roll_for(there, web)), shows_saying(none, other, roll_for(none, other))],
                         [True, True])
        self.assertEqual([shows_saying(none, web, roll_for(none, other)), shows_saying(there, other, roll_for(there, web))],
                         [False, False])
        self.assertEqual([reader_of(none).room <= 6, len(reader_of(there).boxes) <= 54, len(reader_of(there)) <= 2800],
                         [True, True, True])


class Readers(unittest.TestCase):
    def check(self, text, webs, play_it=play, lets=lets_web):
        for saying in both_of(text):
            reader = reader_of(saying)
            for web in webs:
                if holds(saying, web):
                    roll = roll_for(saying, web)
                    self.assertEqual(play_it(reader, web, roll), ('let', len(roll)), (saying.text, web.text))
                    self.assertIs(shows_saying(saying, web, roll), True)
                else:
                    self.assertFalse(lets(reader, web), (saying.text, web.text))
                    self.assertEqual(told(roll_for, saying, web), (NotSo, web))

    def test_forms_on_all_webs_of_two_places(self):
        for text in CLOSED:
            self.check(text, two_places())

    def test_ways_on_all_webs_of_two_places(self):
        for text in WAYS:
            self.check(text, two_places())

    def test_played_and_searched_plainly(self):
        draw = random.Random(1)
        for text in CLOSED + WAYS[:6]:
            self.check(text, draw.sample(two_places(), 3), plain_play, plain_lets)

    def test_drawn_webs_of_three_places(self):
        draw = random.Random(2)
        for text in CLOSED:
            self.check(text, [drawn_web(draw, 3) for _ in range(20)])
        for text in WAYS:
            self.check(text, [drawn_web(draw, 3) for _ in range(4)])

    def test_drawn_sayings(self):
        draw = random.Random(3)
        many = 0
        while many < 400:
            saying = Saying(drawn_saying(draw, [], draw.choice([2, 3, 4]), draw.choice([0, 1, 2])))
            if len(saying) <= 38 and counting_depth(saying) <= 2:
                many += 1
                with mock.patch.object(searches, 'MOST_STANDINGS', 3000000):
                    self.check(saying.text, [drawn_web(draw, draw.choice([2, 2, 3]), ('m', 'q'), ('r', 's'))])

    def test_the_web_with_which_it_is_not_so(self):
        web = Web('places 2')
        with self.assertRaises(NotSo) as raised:
            roll_for(Saying('(some x (mark m x))'), web)
        self.assertIs(raised.exception.value, web)

    def test_free_boxes_are_shared_by_ways_side_by_side(self):
        way = '(way (x u) (y v) (and (same x u) (arrow r x y)) (a a) (b b))'
        short = '(way (x u) (y v) (arrow r x y) (a a) (b b))'
        twelve = Saying(f'(all a (some b (and {" ".join([short] * 12)})))')
        self.assertEqual(twelve.ways, 12)
        for saying in (twelve, contrary_saying(twelve)):
            self.assertLess(len(reader_of(saying).boxes), 30)
        draw = random.Random(4)
        self.check(f'(all a (some b (or (not {way}) {" ".join([way] * 5)})))', [drawn_web(draw, 3) for _ in range(8)])
        self.check(f'(some a (all b (and (not {way}) {" ".join([way] * 3)} (same a b))))', two_places()[::7])

    def test_it_does_not_hang_on_names_of_places(self):
        draw = random.Random(5)
        self.check('(some way (all not (or (same way not) (way (and) (or) (arrow r or and) (way) (not)))))',
                   [drawn_web(draw, 4) for _ in range(10)])


class Bounds(unittest.TestCase):
    def check(self, text):
        for saying in both_of(text)[:2]:
            reader = reader_of(saying)
            depth = counting_depth(saying)
            self.assertLessEqual(reader.room, 6)
            self.assertLessEqual(len(reader.boxes), min(120, 26 * saying.ways + 4 * saying.binders + 20))
            self.assertLessEqual(len(reader), 100 * len(saying) * 4 ** depth)

    def test_each_form(self):
        for text in CLOSED + WAYS:
            self.check(text)

    def test_drawn(self):
        draw = random.Random(6)
        for _ in range(1500):
            text = drawn_saying(draw, [], draw.choice([2, 3, 4, 5]), draw.choice([0, 1, 2]))
            if len(Saying(text)) < 40 and counting_depth(Saying(text)) < 3:
                self.check(text)

    def test_binders_within_one_another(self):
        names = [f'{one}{other}' for one in 'abcdefg' for other in 'uvwxyz'][:37]
        for word in ('some', 'all', 'many 9', 'many 1'):
            self.check(''.join(f'({word} {name} ' for name in names) + f'(arrow r {names[0]} {names[-1]})' + ')' * 37)
        ends = '(even y (arrow r aw y))' + ')' * 36 + ')'
        self.check(f'(even au {"".join(f"(many 3 {name} " for name in names[1:37])}{ends}')

    def test_depth_of_counting(self):
        for text, depth in (
                ('(some x (first x))', 0), ('(even x (first x))', 1), ('(even x (even y (same x y)))', 2),
                ('(some a (way (x) (y) (even z (same z x)) (a) (a)))', 2),
                ('(and (even a (even b (even c (first c)))) (some x (first x)))', 3),
                ('(some a (and (way (x) (y) (first x) (a) (a)) (even b (first b))))', 1)):
            self.assertEqual(counting_depth(Saying(text)), depth, text)

    def test_a_web_of_many_places(self):
        marks = ' '.join(str(place) for place in range(0, 60, 2))
        web = Web(f'places 60\nmark m {marks}\narrow r ' + ' '.join(f'{at}-{at + 1}' for at in range(59)))
        for text, so in (('(even x (mark m x))', True), ('(many 9 x (mark m x))', True),
                         ('(all x (or (last x) (some y (arrow r x y))))', True),
                         ('(some x (some y (and (mark m x) (mark m y) (arrow r x y))))', False)):
            saying = Saying(text) if so else Saying(f'(not {text})')
            roll = roll_for(saying, web)
            self.assertEqual(play(reader_of(saying), web, roll), ('let', len(roll)))
            self.assertEqual(told(roll_for, contrary_saying(saying), web), (NotSo, web))

    def test_rolls_of_the_greatest_width(self):
        web = Web('places 36\narrow r ' + ' '.join(f'{at}-{(at + 1) % 36}' for at in range(36)))
        saying = Saying('(all x (all y (some z (and (or (arrow r x z) (same z y)) (or (same z y) (same z z))))))')
        roll = roll_for(saying, web)
        self.assertEqual(play(reader_of(saying), web, roll), ('let', len(roll)))
        nine = ''.join(f'(all {name} ' for name in 'abcdefghi') + '(same a a)' + ')' * 9
        roll = roll_for(Saying(nine), Web('places 3'))
        self.assertEqual(play(reader_of(Saying(nine)), Web('places 3'), roll), ('let', 0))


class Rolls(unittest.TestCase):
    def test_greater_webs(self):
        draw = random.Random(7)
        for text in CLOSED:
            for _ in range(4):
                web = drawn_web(draw, draw.choice([4, 5, 6]))
                for saying in both_of(text)[:2]:
                    if holds(saying, web):
                        self.assertIs(shows_saying(saying, web, roll_for(saying, web)), True)
        for text in WAYS:
            for saying in both_of(text)[:2]:
                web = drawn_web(draw, 3 if saying.depth == 2 else draw.choice([4, 5]))
                if holds(saying, web):
                    self.assertIs(shows_saying(saying, web, roll_for(saying, web)), True)

    def test_the_longest_way_of_pairs(self):
        """Each pair of six places leads to the next one alone."""
        web = Web('places 6\narrow n 0-1 1-2 2-3 3-4 4-5')
        step = '(or (and (same a c) (arrow n b d)) (and (arrow n a c) (last b) (first d)))'
        saying = Saying(f'(some x (some y (and (first x) (arrow n x y) (not (way (a b) (c d) {step} (x y) (x x))))))')
        roll = roll_for(saying, web)
        self.assertEqual(play(reader_of(saying), web, roll), ('let', len(roll)))

    def test_two_ways_within_one_another_on_three_places(self):
        web = Web('places 3\narrow n 0-1 1-2')
        step = '(or (and (same {0} {2}) (arrow n {1} {3})) (and (arrow n {0} {2}) (last {1}) (first {3})))'
        inner = f'(way (e f) (g h) {step.format("e", "f", "g", "h")} (a b) (c d))'
        outer = f'(and {step.format("a", "b", "c", "d")} (or {inner} (not {inner})))'
        for saying in (Saying(f'(all x (some y (not (way (a b) (c d) {outer} (y y) (x x)))))'),
                       Saying(f'(some x (some y (not (way (a b) (c d) (not {inner}) (x x) (y y)))))')):
            saying = saying if holds(saying, web) else contrary_saying(saying)
            roll = roll_for(saying, web)
            self.assertEqual(play(reader_of(saying), web, roll), ('let', len(roll)))

    def test_kinds(self):
        roll = roll_for(Saying('(some x (mark m x))'), Web('places 3\nmark m 2'))
        self.assertEqual((type(roll), {type(sign) for sign in roll}), (tuple, {int}))

    def test_rolls_that_were_changed(self):
        """Whatever roll it is: it does not show what is not so, and shows_saying tells what play tells."""
        draw = random.Random(8)
        sayings = [saying for text in CLOSED + WAYS for saying in both_of(text)[:2]]
        rolls = {}
        for saying in sayings:
            for _ in range(3):
                web = drawn_web(draw, 3)
                if holds(saying, web):
                    rolls.setdefault(saying.text, []).append(roll_for(saying, web))
        texts = list(rolls)
        for _ in range(1500):
            saying = draw.choice(sayings)
            of = saying.text if saying.text in rolls and draw.random() < 0.8 else draw.choice(texts)
            roll, other = draw.choice(rolls[of]), draw.choice(rolls[of])
            web = drawn_web(draw, 3)
            cut = draw.randrange(len(roll) + 1)
            signs = list(roll)
            for _ in range(min(len(signs), draw.choice([1, 2]))):
                signs[draw.randrange(len(signs))] = draw.choice([0, 1, 2, 3])
            for changed in (roll, roll[:cut], roll + roll, roll[:cut] + other[cut:], tuple(signs), roll[cut:], ()):
                shown = shows_saying(saying, web, changed)
                self.assertIs(shown, play(reader_of(saying), web, changed)[0] == 'let')
                if not holds(saying, web):
                    self.assertIs(shown, False)

    def test_a_longer_roll_shows_it_too(self):
        saying, web = Saying(WAYS[0]), Web('places 3\narrow r 0-1 1-2')
        roll = roll_for(saying, web)
        self.assertIs(shows_saying(saying, web, roll + (7, 10 ** 39)), True)
        self.assertIs(shows_saying(saying, web, roll[:-1]), False)


class Refused(unittest.TestCase):
    def calls(self, saying):
        web = Web('places 2')
        return [told(reader_of, saying), told(roll_for, saying, web), told(shows_saying, saying, web, 'no roll')]

    def test_free_names_first(self):
        deep = '(even a (even b (even c (first x))))'
        great = f'(and {" ".join(["(first x)"] * 39)} {deep})'
        for text, names in ((great, ('x',)), ('(first x)', ('y', 'x'))):
            self.assertEqual(self.calls(Saying(text, names)), [(NotClosed, names)] * 3)
        self.assertEqual(self.calls(Saying('(some x (first x))', ('z',))), [(NotClosed, ('z',))] * 3)

    def test_words_ahead_of_depth(self):
        deep = '(even a (even b (even c (and {}))))'
        for many, word in ((36, 'depth'), (37, 'words'), (380, 'words')):
            saying = Saying(deep.format(' '.join(['(first a)'] * many)))
            self.assertEqual(len(saying), many + 4)
            self.assertEqual(self.calls(saying), [(TooGreat, word)] * 3)

    def test_just_forty_forms(self):
        text = f'(some x (and {" ".join(["(first x)"] * 38)}))'
        web = Web('places 2')
        self.assertIs(shows_saying(Saying(text), web, roll_for(Saying(text), web)), True)
        self.assertEqual(self.calls(contrary_saying(Saying(text))), [(TooGreat, 'words')] * 3)

    def test_depth(self):
        way = '(way (x{0}) (y{0}) {1} (a) (a))'
        for forms in itertools.product(('even', 'way'), repeat=3):
            inner = '(first a)'
            for at, form in enumerate(forms):
                if at == 2:
                    self.assertIsNone(told(reader_of, Saying(f'(all a {inner})'))[0])
                names = 'uvw'[at]
                inner = f'(even {names} {inner})' if form == 'even' else way.format(names, inner)
            self.assertEqual(self.calls(Saying(f'(all a {inner})')), [(TooGreat, 'depth')] * 3)

    def test_rolls_that_are_none(self):
        saying, web = Saying('(all x (same x x))'), Web('places 2')
        for value in values():
            right = isinstance(value, tuple) and all(type(sign) is int and sign >= 0 for sign in value)
            error, found = told(shows_saying, saying, web, value)
            if right:
                self.assertEqual((error, found), (None, True))
            else:
                self.assertIs(error, BadRoll)
                self.assertIs(found, value)

    def test_arguments_by_name(self):
        saying, web = Saying('(some x (mark m x))'), Web('places 2\nmark m 1')
        self.assertEqual(reader_of(saying=saying), reader_of(saying))
        self.assertEqual(roll_for(web=web, saying=saying), roll_for(saying, web))
        self.assertIs(shows_saying(roll=(1,), web=web, saying=saying), shows_saying(saying, web, (1,)))


if __name__ == '__main__':
    unittest.main()
