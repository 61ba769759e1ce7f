import random
import unittest

from contraryrolls.errors import BadName
from contraryrolls.halves import halves_reader
from contraryrolls.piles import PileReader, run_pile
from contraryrolls.webs import has_arrow, numbered_web, Web
from tests.kinds import told, values
from tests.plain import drawn_web
from tests.test_piles import plain_run

READER = halves_reader('r')


def leads(web, name='r'):
    """Whether a way of none or more arrows leads from place 0 to the last place."""
    come_to, new = {0}, [0]
    while new:
        new = [place for place in range(web.places) if place not in come_to and any(has_arrow(web, name, one, place) for one in new)]
        come_to |= set(new)
    return web.places - 1 in come_to


class Halves(unittest.TestCase):
    def check(self, web):
        word, steps, deepest = run_pile(READER, web, 400000)
        self.assertEqual(word, 'let' if leads(web) else 'refused', web.text)
        self.assertLessEqual(deepest, 3 + web.places.bit_length())
        # No way is halved more often than it has to be.
        self.assertLessEqual(deepest, 1 + (web.places - 2).bit_length())
        return steps

    def test_point_13(self):
        self.assertEqual([run_pile(halves_reader('to'), Web('places 3\narrow to ' + pairs), 400000)[0]
                          for pairs in ('0-1 1-2', '0-1 2-1')], ['let', 'refused'])

    def test_bounds(self):
        self.assertIsInstance(READER, PileReader)
        self.assertTrue(len(READER.rows) <= 400 and len(READER.boxes) <= 20 and READER.room <= 4)
        self.assertLessEqual(max(len(row) - 2 for row in READER.rows if row[0] == 'call'), 6)

    def test_all_webs_of_two_places(self):
        for number in range(16):
            self.check(numbered_web(2, (), ('r',), number))

    def test_drawn_webs(self):
        draw = random.Random(1)
        for places in (3, 4, 5, 6):
            for _ in range(150):
                self.check(drawn_web(draw, places))

    def test_played_plainly(self):
        draw = random.Random(2)
        for places in (2, 3, 4, 5):
            web = drawn_web(draw, places)
            self.assertEqual(plain_run(READER, web, 400000), run_pile(READER, web, 400000))

    def test_longest_ways(self):
        """Ways with as many arrows as there can be, whatever the order of the places on them."""
        draw = random.Random(3)
        for places in range(2, 13):
            middle = list(range(1, places - 1))
            draw.shuffle(middle)
            way = [0, *middle, places - 1]
            pairs = sorted(zip(way, way[1:]))
            web = Web(f'places {places}\narrow r ' + ' '.join(f'{one}-{other}' for one, other in pairs))
            word, _, deepest = run_pile(READER, web, 1000000)
            self.assertEqual(word, 'let')
            self.assertLessEqual(deepest, 3 + places.bit_length())

    def test_longest_searches(self):
        """Arrows between all places but to the last one, and none at all."""
        for places in range(2, 9):
            pairs = ' '.join(f'{one}-{other}' for one in range(places) for other in range(places - 1))
            for web in (Web(f'places {places}\narrow r {pairs}'), Web(f'places {places}'), Web(f'places {places}\narrow s {pairs}')):
                self.check(web)

    def test_sixty_places(self):
        line = Web('places 60\narrow r ' + ' '.join(f'{at}-{at + 1}' for at in range(59)))
        for web in (line, Web('places 60')):
            word, steps, deepest = run_pile(READER, web, 1000000)
            self.assertEqual((word, steps), ('more', 1000000))
            self.assertLessEqual(deepest, 9)
        self.assertEqual(run_pile(READER, Web('places 60\narrow r 0-59'), 1000000)[0], 'let')

    def test_names(self):
        web = Web('places 2\narrow go 0-1\narrow up 1-0')
        self.assertEqual([run_pile(halves_reader(name), web, 99)[0] for name in ('go', 'up', 'ask')], ['let', 'refused', 'refused'])
        for value in [*values(), 'abcdefghi', 'A', 'a b']:
            if isinstance(value, str) and value in ('a', 'red'):
                continue
            error, found = told(halves_reader, value)
            self.assertIs(error, BadName)
            self.assertIs(found, value)
        self.assertEqual(halves_reader(name='r'), READER)


if __name__ == '__main__':
    unittest.main()
