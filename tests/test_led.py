import random
import unittest
from unittest import mock

from contraryrolls import searches
from contraryrolls.errors import NotClosed, NotLed, NotSo, TooGreat, TooMany
from contraryrolls.led import led, led_reader, led_roll
from contraryrolls.makings import made, Making
from contraryrolls.plays import lets_web, play, roll_of
from contraryrolls.readers import Reader
from contraryrolls.sayings import Saying
from contraryrolls.shown import counting_depth
from contraryrolls.truths import holds
from contraryrolls.webs import numbered_web, Web
from tests.kinds import told
from tests.plain import drawn_reader, drawn_web, plain_lets, plain_play, reader_of
from tests.plainmakings import drawn_making
from tests.plainsayings import drawn_saying

BACK = Making('wide 1\nmark end (x) (not (some y (arrow to x y)))\narrow from (x) (y) (arrow to y x)')
PAIRS = Making('wide 2\nmark m (x y) (some z (arrow r x z))\narrow r (a b) (c d) (and (same b c) (arrow r a b))')
SAME = Making('wide 1\nmark m (x) (mark m x)\narrow r (x) (y) (arrow r x y)')
SAME_PAIRS = Making('wide 2\nmark m (x y) (and (mark m x) (first y))\narrow r (x y) (u v) (and (arrow r x u) (same y v))')


def bounds(making, reader):
    """The greatest room, and how many boxes and rows at most, that a led reader may have."""
    sayings = [saying for _, saying in making.marks + making.arrows]
    ways, binders = sum(saying.ways for saying in sayings), sum(saying.binders for saying in sayings)
    forms, depth = sum(len(saying) for saying in sayings), max([counting_depth(saying) for saying in sayings], default=0)
    return (making.wide * reader.room + 6, len(reader.boxes) + 40 + 60 * ways + 12 * binders,
            200 + 60 * len(reader) + 200 * forms * 4 ** depth)


def renamed_binders(saying):
    """The tree of a saying, with each bound name exchanged for how many others are bound at its place."""
    def renamed(part, names):
        if isinstance(part, str):
            return names.get(part, part)
        if not isinstance(part, tuple):
            return part
        word = part[0]
        if word in ('arrow', 'mark'):
            return part[:2] + tuple(names[name] for name in part[2:])
        fresh = part[1] + part[2] if word == 'way' else part[-2:-1] if word in ('some', 'all', 'many', 'even') else ()
        inner = {**names, **{name: f'{len(names) + at}' for at, name in enumerate(fresh)}}
        if word == 'way':
            told = [tuple(inner[name] for name in names_) for names_ in part[1:3]]
            ends = [tuple(names[name] for name in names_) for names_ in part[4:]]
            return (word, *told, renamed(part[3], inner), *ends)
        if fresh:
            return (word, *part[1:-2], inner[part[-2]], renamed(part[-1], inner))
        return (word, *[renamed(one, names) for one in part[1:]])
    return renamed(saying.tree, {})


class Example(unittest.TestCase):
    def test_point_11(self):
        web = Web('places 3\narrow to 0-1 1-2')
        saying = Saying('(some x (and (mark end x) (some y (arrow from x y))))', ())
        self.assertEqual([holds(led(BACK, saying), web), holds(saying, made(BACK, web))], [True, True])
        reader = Reader('room 1\nboxes a b\ntake 1 a\ntake 1 b\narrow from a b 4\nrefuse\nlet')
        self.assertEqual(play(led_reader(BACK, reader), web, led_roll(BACK, reader, web))[0], 'let')


class LedSayings(unittest.TestCase):
    def check(self, making, one, other):
        """One becomes a saying that differs from other in no more than bound names."""
        found = led(making, Saying(one))
        self.assertEqual(renamed_binders(found), renamed_binders(Saying(other)), found.text)
        self.assertEqual(found.names, ())

    def test_rules_of_places(self):
        self.check(BACK, '(some x (mark end x))', '(some x (not (some y (arrow to x y))))')
        self.check(BACK, '(some y (some x (arrow from y x)))', '(some y (some x (arrow to x y)))')
        self.check(BACK, '(some y (mark end y))', '(some y (not (some x (arrow to y x))))')
        self.check(BACK, '(some x (some y (or (mark from y) (arrow end y x))))',
                   '(some x (some y (or (not (same y y)) (not (same y y)))))')
        self.check(BACK, '(many 3 x (even y (and (less x y) (first x) (last y) (same y x))))',
                   '(many 3 x (even y (and (less x y) (first x) (last y) (same y x))))')
        self.check(BACK, '(all a (way (x u) (y v) (arrow from x v) (a a) (a a)))',
                   '(all a (way (x u) (y v) (arrow to v x) (a a) (a a)))')

    def test_rules_of_pairs(self):
        self.check(PAIRS, '(some x (mark m x))', '(some a (some b (some z (arrow r a z))))')
        self.check(PAIRS, '(all x (not (arrow r x x)))', '(all a (all b (not (and (same b a) (arrow r a b)))))')
        self.check(PAIRS, '(some x (all y (same x y)))', '(some a (some b (all c (all d (and (same a c) (same b d))))))')
        self.check(PAIRS, '(some x (some y (less x y)))',
                   '(some a (some b (some c (some d (or (less a c) (and (same a c) (less b d)))))))')
        self.check(PAIRS, '(some x (or (first x) (last x) (mark q x) (arrow m x x)))',
                   '(some a (some b (or (and (first a) (first b)) (and (last a) (last b)) (not (same a a)) (not (same a a)))))')
        self.check(PAIRS, '(all c (way (x) (y) (first y) (c) (c)))',
                   '(all a (all b (way (c d) (e f) (and (first e) (first f)) (a b) (a b))))')
        self.check(PAIRS, '(some x (some y (arrow q x y)))', '(some a (some b (some c (some d (not (same a a))))))')

    def test_names_are_not_caught(self):
        """What is bound in the making never has a name that stands for one of its free ones."""
        inner = '(some y (and (less x y) (some z (and (less y z) (arrow r z x)))))'
        making = Making(f'wide 1\nmark m (x) {inner}\narrow r (a) (b) (all c (or (arrow r c a) (less b c) (mark m b)))')
        draw = random.Random(1)
        for names in ('xyz', 'yzx', 'zxy', 'abc', 'bca', 'cab', 'azb'):
            one, two, three = names
            saying = Saying(f'(all {one} (some {two} (or (mark m {two}) (and (arrow r {two} {one}) (some {three} '
                            f'(arrow r {three} {one}))))))')
            for web in [drawn_web(draw, 3) for _ in range(10)]:
                self.assertEqual(holds(led(making, saying), web), holds(saying, made(making, web)))

    def test_drawn(self):
        draw = random.Random(2)
        many = 0
        while many < 500:
            making, saying = drawn_making(draw, 2, 1), Saying(drawn_saying(draw, [], 3, 1))
            web = drawn_web(draw, draw.choice([2, 2, 3]), ('m', 'q'), ('r', 's'))
            error, found = told(led, making, saying)
            if error:
                self.assertTrue(making.wide == 2 and error is NotLed or error is TooGreat)
            elif web.places ** found.width <= 20000:
                many += 1
                self.assertEqual(holds(found, web), holds(saying, made(making, web)), (making.text, saying.text))

    def test_free_names_first(self):
        for text in ('(first x)', '(many 2 y (first x))'):
            self.assertEqual(told(led, PAIRS, Saying(text, ('x',))), (NotClosed, ('x',)))
            self.assertEqual(told(led, BACK, Saying(text, ('x', 'z'))), (NotClosed, ('x', 'z')))

    def test_what_cannot_be_led(self):
        way = '(way (x u) (y v) {} (a a) (a a))'
        for text, word in (
                ('(many 1 x (first x))', 'many'), ('(even x (first x))', 'even'), (f'(all a {way.format("(first x)")})', 'way'),
                ('(and (even x (first x)) (many 2 x (first x)))', 'even'),
                ('(or (some x (first x)) (not (many 2 x (even y (first x)))) (even x (first x)))', 'many'),
                (f'(all a (and {way.format("(even z (first z))")} (many 1 b (first b))))', 'way'),
                ('(all a (way (x) (y) (even z (many 1 b (first z))) (a) (a)))', 'even'),
                (f'(and {" ".join(["(some x (mark m x))"] * 180)} (even x (first x)))', 'even')):
            self.assertEqual(told(led, PAIRS, Saying(text)), (NotLed, word), text)
            self.assertIsNone(told(led, SAME, Saying(text))[0])

    def test_too_great(self):
        """400 forms are right, more are not."""
        # Each mark becomes three forms.
        for marks, more, right in ((132, 2, True), (132, 3, False), (133, 1, False), (398, 0, False)):
            text = f'(some x (and {" ".join(["(mark end x)"] * marks + ["(first x)"] * more)}))'
            error, found = told(led, BACK, Saying(text))
            if right:
                self.assertEqual(len(found), 400)
            else:
                self.assertEqual((error, found), (TooGreat, 400))
        # Of pairs same, less, last and what the making lacks become three, five, three and two forms.
        for form, each in (('(same x x)', 3), ('(less x x)', 5), ('(last x)', 3), ('(mark q x)', 2)):
            left = 397 % each
            for more in (0, 1):
                marks = 397 // each + more
                text = f'(some x (and {" ".join([form] * marks + ["(arrow q x x)"] * (left // 2))}))'
                error, found = told(led, PAIRS, Saying(text))
                if more:
                    self.assertEqual((error, found), (TooGreat, 400))
                else:
                    self.assertEqual(len(found), 3 + each * marks + 2 * (left // 2))

    def test_far_too_great(self):
        great = Making(f'wide 1\nmark m (x) (and {" ".join(["(first x)"] * 399)})')
        self.assertEqual(told(led, great, Saying(f'(some x (and {" ".join(["(mark m x)"] * 398)}))')), (TooGreat, 400))

    def test_deep_ones(self):
        for depth in (198, 199):
            names = [f'{one}{other}' for one in 'abcdefghijklmno' for other in 'abcdefghijklmno'][:depth]
            text = ''.join(f'(some {name} ' for name in names) + '(not (arrow q aa aa))' + ')' * depth
            error, found = told(led, PAIRS, Saying(text))
            if depth == 199:
                self.assertEqual((error, found), (TooGreat, 400))
            else:
                self.assertEqual((len(found), found.binders, found.width), (399, 396, 396))
        text = '(not ' * 398 + '(some x (mark m x))' + ')' * 398
        self.assertEqual(len(led(SAME, Saying(text))), 400)
        self.assertEqual(told(led, PAIRS, Saying(text)), (TooGreat, 400))

    def test_arguments_by_name(self):
        saying = Saying('(some x (mark end x))')
        self.assertEqual(led(saying=saying, making=BACK), led(BACK, saying))


class LedReaders(unittest.TestCase):
    def check(self, making, reader, web, play_it=play, lets=lets_web):
        """Whether the reader lets the made web; the led one lets the web just then, by the roll that is written."""
        found, other = led_reader(making, reader), made(making, web)
        so = lets_web(reader, other)
        if so:
            roll = led_roll(making, reader, web)
            self.assertEqual(play_it(found, web, roll), ('let', len(roll)), (making.text, reader.text, web.text))
        else:
            with mock.patch.object(searches, 'MOST_STANDINGS', 3000000):
                self.assertFalse(lets(found, web), (making.text, reader.text, web.text))
            self.assertEqual(told(led_roll, making, reader, web), (NotSo, web))
        room, boxes, rows = bounds(making, reader)
        self.assertTrue(found.room <= room and len(found.boxes) <= boxes and len(found) <= rows)
        return so

    def test_all_small_webs(self):
        step = reader_of('take 1 a | take 1 b | arrow r a b 4 | refuse | mark m b 6 | refuse | let', 'a b')
        none = reader_of('arrow r a b 5 | edge 1 b 4 | up b | go 0 | let | refuse', 'a b')
        for reader in (step, none):
            for making in (SAME, BACK, PAIRS, Making('wide 1\nmark m (x) (even y (arrow r x y))\narrow r (y) (x) (mark m x)')):
                for number in range(64):
                    self.check(making, reader, numbered_web(2, ('m',), ('r',), number))

    def test_drawn(self):
        draw = random.Random(3)
        let = 0
        for _ in range(1500):
            making = drawn_making(draw, draw.choice([0, 1, 2]), draw.choice([0, 0, 1]))
            reader = drawn_reader(draw, draw.choice([3, 6, 10]), draw.choice([1, 2, 3]), draw.choice([1, 1, 2]))
            web = drawn_web(draw, draw.choice([2, 2, 3]), ('m', 'q'), ('r', 's'))
            if told(lets_web, reader, made(making, web))[0] is not TooMany:
                let += self.check(making, reader, web)
        self.assertGreater(let, 200)

    def test_played_and_searched_plainly(self):
        draw = random.Random(4)
        for _ in range(60):
            making = drawn_making(draw, 1, 0)
            reader = drawn_reader(draw, 6, 2, 1, ('take', 'either', 'mark', 'arrow', 'mark', 'arrow', 'let', 'up', 'refuse'))
            self.check(making, reader, drawn_web(draw, 2), plain_play, plain_lets)

    def test_borders_of_the_made_web(self):
        """What the rows of a reader of the made web tell of numbers at the borders of its rooms."""
        for making, base in ((SAME, 3), (SAME_PAIRS, 9)):
            web = Web('places 3\nmark m 0 1 2\narrow r 0-0 1-1 2-2')
            for room in (1, 2):
                top = base ** room - 1
                for number in (0, 1, base - 2, base - 1, base, base + 1, top - 1, top, top + 1):
                    for test in ('edge 0 a', f'edge {room} a', 'edge 1 a', 'within 0 a', 'within 1 a', f'within {room} a',
                                 f'is a {base - 1}', f'is a {base}', f'is a {top}', 'mark m a', 'arrow r a a'):
                        for begin in (f'set a {number}', f'set a {max(0, number - 1)} | up a', f'take {room} a | is a {number} 3 | refuse'):
                            many = begin.count('|') + 1
                            rows = f'{begin} | {test} {many + 2} | refuse | let'
                            if '3 | refuse' in begin:
                                rows = f'{begin} | {test} 5 | refuse | let'
                            self.check(making, reader_of(rows, 'a', room), web)

    def test_what_is_no_place(self):
        """It has no marks, and no arrows lead to it, whatever the making tells of all places."""
        one = Making('wide 1\nmark m (x) (same x x)\narrow r (x) (y) (or (less x y) (not (less x y)))')
        two = Making('wide 2\nmark m (x y) (not (less x x))\narrow r (x y) (u v) (and (same x x) (same v v))')
        for making, base in ((one, 2), (two, 4)):
            for number in (0, base - 1, base, base + 1, base ** 2 - 1):
                for test in ('mark m a', 'arrow r a b', 'arrow r b a', 'arrow r a a'):
                    so = self.check(making, reader_of(f'set a {number} | {test} 3 | refuse | let', 'a b', 2), Web('places 2'))
                    self.assertEqual(so, number < base)
                    self.check(making, reader_of(f'set a {number} | {test} 3 | let | refuse', 'a b', 2), Web('places 2'))

    def test_signs_at_the_borders(self):
        web = Web('places 3')
        for making, base in ((SAME, 3), (SAME_PAIRS, 9)):
            for length in (0, 1, 2):
                found = led_reader(making, reader_of(f'take {length} a | let', 'a', 2))
                for sign, so in ((base ** length - 1, 'let'), (base ** length, 'refused')):
                    self.assertEqual(play(found, web, (sign,))[0], so)

    def test_behind_the_last_row(self):
        web = Web('places 2\nmark m 0')
        for row in ('mark m a 0', 'mark q a 0', 'mark m b 0', 'arrow r a b 0'):
            self.check(SAME, reader_of(f'take 1 b | {row}', 'a b'), web)
            self.check(SAME_PAIRS, reader_of(f'take 1 b | {row}', 'a b'), web)

    def test_rooms(self):
        """A room that is too little for what is counted is made greater, and all is refused as before."""
        deep = Making('wide 1\nmark m (x) (not (way (a b) (c d) (and (arrow r a d) (arrow r b c)) (x x) (x x)))')
        for making in (SAME, deep):
            for room in (1, 2, 3, 14):
                self.assertEqual(led_reader(making, reader_of('mark m a 0', 'a', room)).room, max(3, room))
        self.assertEqual(led_reader(SAME_PAIRS, reader_of('let', 'a', 7)).room, 14)
        web = Web('places 2\nmark m 1')
        for number in range(5):
            rows = ' | '.join(['up a'] * number)
            self.check(deep, reader_of(f'{rows} | let'.removeprefix(' | '), 'a'), web)
            self.check(deep, reader_of(f'set a {number} | let', 'a'), web)

    def test_many_rows_that_ask(self):
        """A hundred rows ask; the reader lets the web if all of them tell what is so."""
        web = Web('places 2\nmark m 1\narrow r 0-1')
        rows = ['take 1 a', 'take 1 b']
        for at in range(100):
            row = 2 + 2 * at
            rows.extend([f'mark m b {row + 2}' if at % 2 else f'arrow r a b {row + 2}', 'refuse'])
        for making in (SAME, SAME_PAIRS):
            reader = reader_of([*rows, 'let'], 'a b')
            found = led_reader(making, reader)
            self.check(making, reader, web if making is SAME else Web('places 2\nmark m 0\narrow r 0-0'))
            self.assertLessEqual(found.room, making.wide + 6)
        for many, room in ((0, 3), (8, 3), (9, 4), (16, 4), (17, 5), (64, 6), (65, 7), (100, 7)):
            asking = [f'mark m a {at + 1}' for at in range(many)]
            reader = reader_of([*asking, 'take 1 b', f'arrow r a b {many + 3}', 'refuse', 'let'], 'a b')
            self.assertEqual(led_reader(SAME, reader).room, room)
            self.check(SAME, reader, web)

    def test_many_boxes(self):
        names = [f'{one}{other}' for one in 'abcdefgh' for other in 'abcdefghij'] + list('abcdefghij')
        reader = reader_of(['take 1 a', 'mark m a 3', 'refuse', 'let'], ' '.join(names))
        self.check(PAIRS, reader, Web('places 2\narrow r 1-0'))
        self.assertEqual(led_reader(PAIRS, reader).boxes[:90], tuple(names))

    def test_ways_in_makings(self):
        way = '(way (a) (b) (arrow r a b) (x) (y))'
        making = Making(f'wide 1\narrow to (x) (y) {way}\narrow not (x) (y) (not {way})')
        draw = random.Random(5)
        for _ in range(12):
            web = drawn_web(draw, draw.choice([3, 4, 5]))
            for name in ('to', 'not'):
                self.check(making, reader_of(f'take 1 a | take 1 b | arrow {name} a b 4 | refuse | less b a 6 | refuse | let', 'a b'), web)

    def test_two_ways_within_one_another(self):
        inner = '(way (u) (v) (or (arrow r u v) (arrow r v u)) (a) (b))'
        making = Making(f'wide 1\nmark m (x) (all y (not (way (a) (b) (not {inner}) (x) (y))))')
        for web in (Web('places 3\narrow r 0-1'), Web('places 3\narrow r 0-1 1-2'), Web('places 2\narrow r 0-0')):
            self.check(making, reader_of('take 1 a | mark m a 3 | refuse | let', 'a'), web)

    def test_too_great(self):
        reader = reader_of('let')
        self.assertEqual(led_roll(SAME_PAIRS, reader, Web('places 7')), ())
        self.assertEqual(told(led_roll, SAME_PAIRS, reader_of('refuse'), Web('places 8')), (TooGreat, 60))
        self.assertEqual(told(led_roll, SAME_PAIRS, reader_of('refuse'), Web('places 7')), (NotSo, Web('places 7')))
        with self.assertRaises(NotSo) as raised:
            web = Web('places 60')
            led_roll(SAME, reader_of('refuse'), web)
        self.assertIs(raised.exception.value, web)

    def test_a_roll_of_integers(self):
        roll = led_roll(PAIRS, reader_of('take 1 a | mark m a 3 | refuse | let', 'a'), Web('places 3\narrow r 2-0'))
        self.assertEqual((type(roll), {type(sign) for sign in roll}), (tuple, {int}))

    def test_rolls_that_were_changed(self):
        draw = random.Random(6)
        reader = reader_of('take 1 a | take 1 b | arrow r a b 4 | refuse | mark m b 6 | refuse | less a b 8 | refuse | let', 'a b')
        rolls = []
        for making in (SAME, BACK, SAME_PAIRS, PAIRS):
            for _ in range(30):
                web = drawn_web(draw, draw.choice([2, 3]))
                if roll_of(reader, made(making, web)) is not None:
                    rolls.append((making, led_roll(making, reader, web)))
        for _ in range(2000):
            making, roll = draw.choice(rolls)
            _, other = draw.choice(rolls)
            web, cut = drawn_web(draw, draw.choice([2, 3])), draw.randrange(len(roll) + 1)
            for changed in (roll, roll[:cut] + other[cut:], roll[:cut]):
                if play(led_reader(making, reader), web, changed)[0] == 'let':
                    self.assertTrue(lets_web(reader, made(making, web)))

    def test_arguments_by_name(self):
        reader, web = reader_of('take 1 a | mark m a 3 | refuse | let', 'a'), Web('places 3\narrow r 2-0')
        self.assertEqual(led_reader(reader=reader, making=PAIRS), led_reader(PAIRS, reader))
        self.assertEqual(led_roll(web=web, reader=reader, making=PAIRS), led_roll(PAIRS, reader, web))


if __name__ == '__main__':
    unittest.main()
