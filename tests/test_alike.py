import random
import time
import unittest

from contraryrolls import alike as module
from contraryrolls.alike import alike, letting_webs, opposed
from contraryrolls.errors import BadNames, BadNumber, TooMany
from contraryrolls.lesser import lesser
from contraryrolls.readers import Reader
from contraryrolls.webs import numbered_web, webs_many
from tests.kinds import told, values
from tests.plain import drawn_reader, plain_lets, reader_of

LET, REFUSE = reader_of('let'), reader_of('refuse')
FIRST = reader_of('mark m a 2 | refuse | let', 'a')
LAST = reader_of('edge 1 a 3 | up a | go 0 | mark m a 5 | refuse | let', 'a')
# On a web of two places it comes to few standings, on one of three to too many: 3 ** 11.
GROWS = reader_of('take 11 a | let', 'a', 20)
FOUR = ('a', 'b', 'c', 'd')


def all_webs(places, marks, arrows):
    """All these webs in their order, with how many places they have and their numbers."""
    return [(size, number, numbered_web(size, marks, arrows, number)) for size in range(2, places + 1)
            for number in range(webs_many(size, marks, arrows))]


class Example(unittest.TestCase):
    def test_point_6(self):
        self.assertEqual([letting_webs(FIRST, 2, ('m',), ()), letting_webs(LAST, 2, ('m',), ())],
                         [((2, 1), (2, 3)), ((2, 2), (2, 3))])
        self.assertEqual(
            [alike(FIRST, LAST, 3, ('m',), ())[1].text, alike(FIRST, LAST, 3, ('m',), ())[2],
             opposed(FIRST, LAST, 3, ('m',), ())[2]], ['places 2\nmark m 0', 'one', 'neither'])


class Webs(unittest.TestCase):

    def test_letting_webs(self):
        for places, marks, arrows in ((2, (), ()), (60, (), ()), (4, ('m',), ()), (3, (), ('r',)), (2, ('m', 'n'), ('r',)),
                                      (11, ('m',), ()), (2, ('q',), ('s',)), (3, ('k', 'l', 'm'), ())):
            webs = all_webs(places, marks, arrows)
            self.assertEqual(letting_webs(LET, places, marks, arrows), tuple((size, number) for size, number, _ in webs))
            self.assertEqual(letting_webs(REFUSE, places, marks, arrows), ())
            held = tuple((size, number) for size, number, web in webs if 0 in dict(web.marks).get('m', ()))
            self.assertEqual(letting_webs(FIRST, places, marks, arrows), held)
        self.assertEqual(letting_webs(FIRST, 3, ('m',), ()), ((2, 1), (2, 3), (3, 1), (3, 3), (3, 5), (3, 7)))

    def test_drawn_readers(self):
        draw = random.Random(1)
        parted = set()
        for _ in range(60):
            one = drawn_reader(draw, draw.randint(1, 6), draw.randint(0, 2), 1)
            other = draw.choice([drawn_reader(draw, draw.randint(1, 6), draw.randint(0, 2), 1), lesser(one), LET, REFUSE])
            webs = all_webs(2, ('m',), ('r',))
            first = [plain_lets(one, web) for _, _, web in webs]
            second = [plain_lets(other, web) for _, _, web in webs]
            self.assertEqual(letting_webs(one, 2, ('m',), ('r',)),
                             tuple((size, number) for (size, number, _), so in zip(webs, first) if so))
            differ = [at for at in range(len(webs)) if first[at] != second[at]]
            result = alike(one, other, 2, ('m',), ('r',))
            if differ:
                web, word = webs[differ[0]][2], 'one' if first[differ[0]] else 'other'
                self.assertEqual(result, ('parts', web, word))
                self.assertEqual(result[1].text, web.text)
                self.assertEqual(alike(other, one, 2, ('m',), ('r',)),
                                 ('parts', web, 'other' if word == 'one' else 'one'))
            else:
                self.assertEqual(result, ('alike',))
            same = [at for at in range(len(webs)) if first[at] == second[at]]
            other_result = opposed(one, other, 2, ('m',), ('r',))
            if same:
                web, word = webs[same[0]][2], 'both' if first[same[0]] else 'neither'
                self.assertEqual(other_result, ('parts', web, word))
                self.assertEqual(other_result[1].text, web.text)
            else:
                self.assertEqual(other_result, ('opposed',))
            parted.update([result[-1], other_result[-1]])
        self.assertLessEqual({'one', 'other', 'alike', 'both', 'neither'}, parted)

    def test_opposed(self):
        self.assertEqual(opposed(LET, REFUSE, 3, ('m',), ()), ('opposed',))
        self.assertEqual(opposed(REFUSE, LET, 60, (), ()), ('opposed',))
        not_first = reader_of('mark m a 2 | let | refuse', 'a')
        self.assertEqual(opposed(FIRST, not_first, 4, ('m',), ()), ('opposed',))
        self.assertEqual(opposed(FIRST, FIRST, 2, ('m',), ())[2], 'neither')
        self.assertEqual(opposed(LET, LET, 2, ('m',), ())[1:], (numbered_web(2, ('m',), (), 0), 'both'))

    def test_a_web_of_more_places_parts(self):
        three = reader_of('up a | up a | let', 'a')
        result = alike(three, REFUSE, 3, ('m',), ())
        self.assertEqual((result[1].text, result[2]), ('places 3\nmark m', 'one'))
        self.assertEqual(alike(three, REFUSE, 2, ('m',), ()), ('alike',))
        result = opposed(REFUSE, reader_of('edge 1 a 3 | up a | edge 1 a 4 | refuse | let', 'a'), 3, (), ())
        self.assertEqual((result[1].text, result[2]), ('places 3', 'neither'))


class Errors(unittest.TestCase):
    def every(self, places, marks, arrows, reader=LET):
        """What each of the three functions tells for these, the same reader standing for both."""
        return [told(letting_webs, reader, places, marks, arrows), told(alike, reader, reader, places, marks, arrows),
                told(opposed, reader, reader, places, marks, arrows)]

    def test_bad_numbers(self):
        for value in values() + [61, 1.5, 2.0]:
            if type(value) is int and 2 <= value <= 60:
                continue
            for error, kept in self.every(value, 'no', 'no', GROWS):
                self.assertIs(error, BadNumber)
                self.assertIs(kept, value)

    def test_bad_names(self):
        for value in values() + [('b', 'a'), ('a', 'a'), ('a', 'b', 'c', 'd', 'e'), ('A',), ('a', 1), ['a'], 'ab', ('',)]:
            if value in ((), ('a',)):
                continue
            for error, kept in self.every(3, value, 'no', GROWS) + self.every(60, FOUR, value, GROWS):
                self.assertIs(error, BadNames)
                self.assertIs(kept, value)

    def test_too_many_webs(self):
        for places, marks, arrows in ((12, ('m',), ()), (3, ('m',), ('r',)), (60, ('m',), ()), (60, FOUR, FOUR),
                                      (4, (), ('r',)), (2, ('m',), FOUR), (3, FOUR, ()), (2, FOUR, ('r', 's'))):
            for result in self.every(places, marks, arrows, GROWS):
                self.assertEqual(result, (TooMany, 4096))
        self.assertEqual(told(letting_webs, LET, 2, FOUR, ('r',))[0], None)
        # 64 webs of two places and 4,096 of three are too many together.
        self.assertEqual(told(letting_webs, LET, 3, ('m',), ('r',)), (TooMany, 4096))
        self.assertEqual(len(letting_webs(LET, 2, FOUR, ('r',))), 4096)
        self.assertEqual(len(letting_webs(LET, 11, ('m',), ())), 4092)

    def test_too_many_standings(self):
        self.assertEqual(letting_webs(GROWS, 2, ('m',), ()), ((2, 0), (2, 1), (2, 2), (2, 3)))
        self.assertEqual(self.every(3, ('m',), (), GROWS)[:2], [(TooMany, 100000)] * 2)
        # A web ahead of it tells the end.
        self.assertEqual(opposed(GROWS, GROWS, 3, ('m',), ()), ('parts', numbered_web(2, ('m',), (), 0), 'both'))
        self.assertEqual(alike(GROWS, REFUSE, 3, ('m',), ()), ('parts', numbered_web(2, ('m',), (), 0), 'one'))
        self.assertEqual(told(opposed, GROWS, REFUSE, 3, ('m',), ()), (TooMany, 100000))
        self.assertEqual(told(opposed, REFUSE, GROWS, 3, ('m',), ()), (TooMany, 100000))
        self.assertEqual(told(alike, LET, GROWS, 3, ('m',), ()), (TooMany, 100000))


class Calls(unittest.TestCase):
    def test_by_names_and_in_this_file(self):
        self.assertEqual(letting_webs(arrows=(), marks=('m',), places=2, reader=FIRST), ((2, 1), (2, 3)))
        self.assertEqual(alike(arrows=(), marks=('m',), places=2, other=FIRST, one=LET),
                         ('parts', numbered_web(2, ('m',), (), 0), 'one'))
        self.assertEqual(opposed(marks=(), arrows=(), other=REFUSE, one=LET, places=2), ('opposed',))
        for call in (letting_webs, alike, opposed):
            self.assertEqual(call.__module__, 'contraryrolls.alike')
            self.assertIs(getattr(module, call.__name__), call)

    def test_equal_calls_and_unchanged_arguments(self):
        kept = (FIRST.text, FIRST.rows, LAST.text, LAST.rows)
        for call in (alike, opposed):
            self.assertEqual(call(FIRST, LAST, 3, ('m',), ()), call(Reader(FIRST.text), Reader(LAST.text), 3, ('m',), ()))
        self.assertEqual(letting_webs(LAST, 3, ('m',), ()), letting_webs(Reader(LAST.text), 3, ('m',), ()))
        self.assertEqual(kept, (FIRST.text, FIRST.rows, LAST.text, LAST.rows))

    def test_running_time(self):
        begun = time.monotonic()
        reader = reader_of('edge 1 a 6 | take 1 b | arrow r a b 4 | refuse | put a b | go 0 | mark c a 8 | refuse | let', 'a b')
        self.assertEqual(len(letting_webs(reader, 2, FOUR, ('r',))), 4096 // 4)
        self.assertEqual(alike(reader, reader, 2, FOUR, ('r',)), ('alike',))
        self.assertLess(time.monotonic() - begun, 60)


if __name__ == '__main__':
    unittest.main()
