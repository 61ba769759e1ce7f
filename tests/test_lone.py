import itertools
import random
import unittest

from contraryrolls import roads
from contraryrolls.errors import BadName, BadWord, NotLone, NotSo, RollError
from contraryrolls.lone import lone, lone_reader, lone_roll, shows_lone
from contraryrolls.plays import play
from contraryrolls.readers import Reader
from contraryrolls.searches import LETS, Search
from contraryrolls.webs import has_arrow, numbered_web, Web
from tests.kinds import told, values
from tests.plain import drawn_web, plain_next, plain_play, plain_standings

WORDS = ('way', 'noway')
READERS = {word: lone_reader('r', word) for word in WORDS}


def plain_roads(web, name):
    """For each place to which there is a road the list of all that have the fewest steps."""
    told_, level = {0: [(0,)]}, [(0,)]
    while level:
        level = [road + (place,) for road in level for place in range(web.places)
                 if has_arrow(web, name, road[-1], place) and place not in told_]
        for road in level:
            told_.setdefault(road[-1], []).append(road)
    return told_


def is_lone(web, name='r'):
    return all(len(found) == 1 for found in plain_roads(web, name).values())


def small_webs():
    """All webs of two places, and drawn ones of three and four."""
    draw = random.Random(1)
    webs = [numbered_web(2, (), ('r',), number) for number in range(16)]
    return webs + [drawn_web(draw, places) for places in (3, 3, 4) for _ in range(25)]


def lone_webs(draw, places, many):
    """So many lone webs, both such with a road to the last place and such without."""
    webs = []
    while len(webs) < many:
        web = drawn_web(draw, places)
        if is_lone(web) and ((places - 1 in plain_roads(web, 'r')) == (len(webs) % 2 == 0)):
            webs.append(web)
    return webs


class Example(unittest.TestCase):
    def test_point_12(self):
        one = Web('places 4\narrow to 0-1 0-2 1-3')
        two = Web('places 4\narrow to 0-1 0-2 1-3 2-3')
        self.assertEqual([lone(one, 'to'), lone(two, 'to')[:2], sorted(lone(two, 'to')[2:]), lone(two, 'far')],
                         [('lone',), ('two', 3), [(0, 1, 3), (0, 2, 3)], ('lone',)])
        reader, roll = lone_reader('to', 'way'), lone_roll(one, 'to', 'way')
        self.assertEqual(play(reader, one, roll), ('let', len(roll)))
        none = Web('places 2\narrow to 1-0')
        self.assertEqual(play(lone_reader('to', 'noway'), none, lone_roll(none, 'to', 'noway'))[0], 'let')


class Lone(unittest.TestCase):
    def test_by_a_plain_counting(self):
        draw = random.Random(2)
        webs = small_webs() + [drawn_web(draw, places) for places in (4, 5, 6, 6) for _ in range(150)]
        both = 0
        for web in webs:
            found, plain = lone(web, 'r'), plain_roads(web, 'r')
            if found == ('lone',):
                self.assertTrue(is_lone(web))
            else:
                word, place, one, other = found
                self.assertEqual((word, type(place), type(found)), ('two', int, tuple))
                self.assertTrue(one in plain[place] and other in plain[place] and one != other)
                both += 1
            self.assertIs(shows_lone(web, 'r', found), True)
        self.assertTrue(100 < both < len(webs) - 100)

    def test_place_0(self):
        """An arrow to itself is no road with the fewest steps."""
        self.assertEqual(lone(Web('places 2\narrow r 0-0 0-1 1-0 1-1'), 'r'), ('lone',))
        self.assertEqual(lone(Web('places 3\narrow r 0-0 0-1 0-2 1-0 2-0'), 'r'), ('lone',))

    def test_other_names(self):
        web = Web('places 4\narrow r 0-1 0-2 1-3 2-3\nmark s 0\narrow s 0-3')
        self.assertEqual([lone(web, name)[0] for name in ('r', 's', 'q')], ['two', 'lone', 'lone'])

    def test_what_is_shown(self):
        web = Web('places 5\narrow r 0-0 0-1 0-2 1-3 2-3 3-4')
        right = [('two', 3, (0, 1, 3), (0, 2, 3)), ('two', 3, (0, 2, 3), (0, 1, 3)),
                 ('two', 4, (0, 1, 3, 4), (0, 2, 3, 4)), ('two', 4, (0, 2, 3, 4), (0, 1, 3, 4))]
        wrong = [
            ('lone',), ('lone', 3), (), ('two',), ('two', 3), ('two', 3, (0, 1, 3)), ('two', 3, (0, 1, 3), (0, 1, 3)),
            ('two', 4, (0, 1, 3), (0, 2, 3)), ('two', 3, (0, 1, 3), (0, 2, 3), ()), ['two', 3, (0, 1, 3), (0, 2, 3)],
            ('two', 3, [0, 1, 3], (0, 2, 3)), ('two', 3, (0, 1, 3), [0, 2, 3]), ('two', 3, (0, True, 3), (0, 2, 3)),
            ('two', 3, (False, 1, 3), (0, 2, 3)), ('two', 3, (0, 1, 3), (0, 0, 2, 3)), ('two', 3, (0, 0, 1, 3), (0, 0, 2, 3)),
            ('two', 3, (0, 1, 2, 3), (0, 2, 3)), ('two', 3, (0, 3), (0, 2, 3)), ('two', 3, (1, 3), (2, 3)), ('two', 3, (), ()),
            ('two', 1, (0, 1), (0, 0, 1)), ('two', 0, (0,), (0, 0)), ('two', 2, (0, 2), (0, 2)), ('two', True, (0, 1), (0, 1)),
            ('Two', 3, (0, 1, 3), (0, 2, 3)), (2, 3, (0, 1, 3), (0, 2, 3)), ('two', '3', (0, 1, 3), (0, 2, 3)),
            ('two', -1, (0, 1, 3), (0, 2, 3)), ('two', 5, (0, 1, 5), (0, 2, 5)), ('two', 3, '013', '023'),
            ('two', 3, (0, 1, 3), (0, 2, 3, 4)), ('two', 3, (0, 5, 3), (0, 2, 3)), ('two', 3, (0, -4, 3), (0, 2, 3))]
        for value in right:
            self.assertIs(shows_lone(web, 'r', value), True, value)
        for value in wrong + values():
            self.assertIs(shows_lone(web, 'r', value), False, value)
        straight = Web('places 5\narrow r 0-0 0-1 1-3 2-3 3-4')
        self.assertIs(shows_lone(straight, 'r', ('lone',)), True)
        for value in right + wrong[1:] + values() + [['lone'], 'lone', ('lone', 'lone')]:
            self.assertIs(shows_lone(straight, 'r', value), False, value)

    def test_places_without_a_road(self):
        web = Web('places 4\narrow r 1-2 1-3 2-1 3-1')
        self.assertEqual(lone(web, 'r'), ('lone',))
        self.assertIs(shows_lone(web, 'r', ('two', 1, (2, 1), (3, 1))), False)
        self.assertIs(shows_lone(Web('places 5\narrow r 0-1 0-2 1-3 2-3'), 'r', ('two', 4, (0, 1, 3), (0, 2, 3))), False)


class Readers(unittest.TestCase):
    def test_bounds(self):
        for word, reader in READERS.items():
            self.assertIsInstance(reader, Reader)
            self.assertTrue(len(reader) <= 240 and len(reader.boxes) <= 40 and reader.room <= 3, word)

    def test_letting(self):
        """By going through all standings: a reader lets no web of which its word is not so."""
        for web in small_webs():
            so = web.places - 1 in plain_roads(web, 'r')
            for word in WORDS:
                search = Search(READERS[word], web)
                lets = LETS in search.ends
                # What cannot be right any more is refused at once.
                self.assertLess(len(search.seen), 7000)
                if lets or is_lone(web):
                    self.assertEqual(lets, so == (word == 'way'), web.text)

    def test_the_only_roll(self):
        """At each moment there is one standing from which it can still let, and one sign for it."""
        for web in small_webs():
            if not is_lone(web):
                continue
            word = 'way' if web.places - 1 in plain_roads(web, 'r') else 'noway'
            self.check_one_roll(READERS[word], web, lone_roll(web, 'r', word))

    def check_one_roll(self, reader, web, roll):
        search = Search(reader, web)
        tallies = search.tallies()
        good = {LETS}
        while True:
            more = {fork for fork, tally in enumerate(tallies) if good & set(tally)} - good
            if not more:
                break
            good |= more
        ends = {search.ends[0]}
        for sign in roll:
            [fork] = ends & good
            first, many, _ = search.forks[fork]
            right = [at for at, end in enumerate(search.ends[first:first + many]) if end in good]
            self.assertEqual(right, [sign])
            ends = set(search.ends[first:first + many])
        self.assertEqual(ends & good, {LETS})

    def test_plainly(self):
        """The same for two webs, by the plain reckoning of standings and plays."""
        for web in (Web('places 2\narrow r 0-1 1-1'), Web('places 3\narrow r 0-1 1-0')):
            word = 'way' if web.places == 2 else 'noway'
            reader, roll = READERS[word], lone_roll(web, 'r', word)
            self.assertEqual(plain_play(reader, web, roll), ('let', len(roll)))
            ahead = {}
            for standing in plain_standings(reader, web):
                for _, after in plain_next(reader, web, standing):
                    ahead.setdefault(after, []).append(standing)
            good = {standing for standing in plain_standings(reader, web) if reader.rows[standing[0]][0] == 'let'}
            new = list(good)
            while new:
                new = [one for standing in new for one in ahead.get(standing, []) if one not in good]
                good |= set(new)
            standing, signs = (0, (0,) * len(reader.boxes)), []
            while reader.rows[standing[0]][0] != 'let':
                [(sign, standing)] = [(sign, after) for sign, after in plain_next(reader, web, standing) if after in good]
                signs.extend([] if sign is None else [sign])
            self.assertEqual(tuple(signs), roll)

    def test_greater_webs(self):
        draw = random.Random(3)
        for places in (5, 6, 7):
            for web in lone_webs(draw, places, 12):
                for word in WORDS:
                    if (word == 'way') == (places - 1 in plain_roads(web, 'r')):
                        roll = lone_roll(web, 'r', word)
                        self.assertEqual(play(READERS[word], web, roll), ('let', len(roll)))
                        for changed in (roll[:-1], roll + (0,), roll[1:], roll[:-1] + (1 - min(roll[-1], 1),)):
                            self.assertNotEqual(play(READERS[word], web, changed), ('let', len(changed)))
                        for _ in range(20):
                            signs = list(roll)
                            signs[draw.randrange(len(signs))] = draw.randrange(places)
                            lets = play(READERS[word], web, tuple(signs))[0] == 'let'
                            self.assertEqual(lets, tuple(signs) == roll)

    def test_ten_places(self):
        line = Web('places 10\narrow r ' + ' '.join(f'{at}-{at + 1}' for at in range(9)))
        ends = Web('places 10\narrow r ' + ' '.join(f'{at}-{at + 1}' for at in range(8)) + ' 9-0')
        for web, word in ((line, 'way'), (ends, 'noway')):
            roll = lone_roll(web, 'r', word)
            self.assertEqual(play(READERS[word], web, roll), ('let', len(roll)))

    def test_no_roll_of_another_web(self):
        """Rolls of other webs do not make a reader let what is not so, lone webs or not."""
        draw = random.Random(4)
        rolls = {word: [] for word in WORDS}
        for places in (2, 3, 4):
            for web in [web for web in small_webs() if web.places == places and is_lone(web)]:
                word = 'way' if places - 1 in plain_roads(web, 'r') else 'noway'
                rolls[word].append(lone_roll(web, 'r', word))
        for _ in range(1500):
            word, web = draw.choice(WORDS), drawn_web(draw, draw.choice([2, 3, 4]))
            one, other = draw.choice(rolls[word]), draw.choice(rolls[word])
            cut = draw.randrange(len(one) + 1)
            for roll in (one, one[:cut] + other[cut:], one + other):
                if play(READERS[word], web, roll)[0] == 'let':
                    self.assertEqual(word == 'way', web.places - 1 in plain_roads(web, 'r'))

    def test_a_web_without_these_arrows(self):
        web = Web('places 3\narrow s 0-1 1-2')
        roll = lone_roll(web, 'r', 'noway')
        self.assertEqual(play(READERS['noway'], web, roll), ('let', len(roll)))
        self.assertEqual(told(lone_roll, web, 'r', 'way'), (NotSo, 'way'))


class Refused(unittest.TestCase):
    def test_names(self):
        web = Web('places 4\narrow r 0-1 0-2 1-3 2-3')
        for value in [*values(), 'abcdefghi', 'A', 'a b', 'a1']:
            if isinstance(value, str) and value in ('a', 'red'):
                continue
            for call in (lambda: lone(web, value), lambda: shows_lone(web, value, 0), lambda: lone_reader(value, 0),
                         lambda: lone_roll(web, value, 0)):
                error, found = told(call)
                self.assertIs(error, BadName)
                self.assertIs(found, value)

    def test_words(self):
        web = Web('places 4\narrow r 0-1 0-2 1-3 2-3')
        for value in [*values(), 'Way', 'noway ', '', ('way',), 'no']:
            for call in (lambda: lone_reader('r', value), lambda: lone_roll(web, 'r', value)):
                error, found = told(call)
                self.assertIs(error, BadWord)
                self.assertIs(found, value)

    def test_webs_that_are_not_lone(self):
        for web in small_webs():
            for word in WORDS:
                error, found = told(lone_roll, web, 'r', word)
                if not is_lone(web):
                    self.assertIs(error, NotLone)
                    self.assertNotEqual(found, ('lone',))
                    self.assertIs(shows_lone(web, 'r', found), True)
                elif (word == 'way') != (web.places - 1 in plain_roads(web, 'r')):
                    self.assertEqual((error, found), (NotSo, word))
                else:
                    self.assertEqual((error, type(found), {type(sign) for sign in found}), (None, tuple, {int}))

    def test_many_places(self):
        """Not even roads of the greatest webs take long."""
        pairs = ' '.join(f'{one}-{other}' for one in range(60) for other in range(60))
        self.assertEqual(lone(Web(f'places 60\narrow r {pairs}'), 'r'), ('lone',))
        pairs = ' '.join(f'{one}-{other}' for one, other in itertools.product(range(60), repeat=2) if other <= one + 2)
        self.assertEqual(lone(Web(f'places 60\narrow r {pairs}'), 'r')[0], 'two')

    def test_arguments_by_name(self):
        web = Web('places 2\narrow r 0-1')
        self.assertEqual(lone(arrow='r', web=web), ('lone',))
        self.assertIs(shows_lone(value=('lone',), arrow='r', web=web), True)
        self.assertEqual(lone_reader(word='way', arrow='r'), READERS['way'])
        self.assertEqual(lone_roll(word='way', web=web, arrow='r'), lone_roll(web, 'r', 'way'))
        self.assertTrue(issubclass(BadWord, RollError) and roads.Roads(web, 'r').two is None)


if __name__ == '__main__':
    unittest.main()
