"""The files that others share: rowlists, webrows, courses, searches."""
import random
import unittest

from contraryrolls.courses import Course, next_standings
from contraryrolls.errors import BadNames, BadNumber, TooMany
from contraryrolls.readers import Reader
from contraryrolls.rowlists import BoxList, counted_name, exchanged, fresh_names, parts_of, reader_text, RowList
from contraryrolls.searches import DEAD, LETS, Search
from contraryrolls.webrows import web_numbers
from contraryrolls.webs import Web
from contraryrolls.words import is_name
from tests.kinds import told
from tests.plain import drawn_reader, drawn_web, plain_next, plain_standings, reader_of


class RowLists(unittest.TestCase):
    def test_labels(self):
        made = RowList()
        made.label('again', ('one', 1))
        made.put('either', 'end')
        made.put('is', 'a', 7, ('one', 1))
        made.put('go', 'again')
        made.label('end')
        made.put('let')
        self.assertEqual(made.told(), [('either', 3), ('is', 'a', 7, 0), ('go', 0), ('let',)])

    def test_rows_that_are_refused_as_in_a_lesser_room(self):
        made = RowList()
        made.put_bounded(('set', 'a', 4), 1, 'no')
        made.put_bounded(('up', 'a'), 1, 'no')
        made.put_bounded(('put', 'a', 'a'), 1, 'no')
        made.label('no')
        made.put('refuse')
        self.assertEqual(made.told(), [('set', 'a', 4), ('within', 1, 'a', 3), ('go', 6), ('edge', 1, 'a', 6), ('up', 'a'),
                                       ('put', 'a', 'a'), ('refuse',)])

    def test_parts(self):
        row = ('arrow', 'a', 'a', 'b', 1)
        self.assertEqual(exchanged(row, 'B', {'a': 'x', 1: 5}), ('arrow', 'a', 'x', 'b', 1))
        self.assertEqual(exchanged(row, 'N', {'a': 'x'}), ('arrow', 'x', 'a', 'b', 1))
        self.assertEqual(exchanged(row, 'L', {1: 0, 'a': 3}), ('arrow', 'a', 'a', 'b', 0))
        self.assertEqual([parts_of(row, letter) for letter in 'NBLK'], [['a'], ['a', 'b'], [1], []])
        self.assertEqual(exchanged(('is', 'b', 1, 1), 'L', {1: 9}), ('is', 'b', 1, 9))

    def test_texts(self):
        reader = reader_of('take 2 b | let', 'a b', 3)
        self.assertEqual(reader_text(3, reader.boxes, reader.rows), reader.text)
        self.assertEqual(Reader(reader_text(1, [], [('let',)])).text, 'room 1\nboxes\nlet')

    def test_rows_of_pile_readers(self):
        made = RowList()
        made.label('on')
        made.put('call', 'on', 'on', 'a')
        made.put('back')
        self.assertEqual(made.told(), [('call', 0, 'on', 'a'), ('back',)])
        self.assertEqual([parts_of(('call', 0, 'a', 'b', 'a'), letter) for letter in 'LB'], [[0], ['a', 'b', 'a']])
        self.assertEqual(parts_of(('call', 3), 'B'), [])

    def test_fresh_labels(self):
        made = RowList()
        labels = made.fresh_labels(3) + made.fresh_labels(0) + made.fresh_labels(2)
        self.assertEqual(len(set(labels)), 5)

    def test_boxes(self):
        """Boxes that are left are used again, ahead of others, and none has a name that is held."""
        boxes = BoxList(['b', 'd'])
        first, second = boxes.use(2), boxes.use(1)
        self.assertEqual((first, second, boxes.names), (['a', 'c'], ['e'], ['a', 'c', 'e']))
        boxes.leave(first)
        self.assertEqual((boxes.use(1), boxes.use(2)), (['a'], ['c', 'f']))
        self.assertEqual((boxes.use(0), boxes.names), ([], ['a', 'c', 'e', 'f']))

    def test_fresh_names(self):
        self.assertEqual([counted_name(number) for number in (0, 25, 26, 27, 701, 702)], ['a', 'z', 'aa', 'ab', 'zz', 'aaa'])
        names = fresh_names(120, ['a', 'c', 'zz'])
        self.assertEqual((names[:3], len(set(names)), {'a', 'c', 'zz'} & set(names)), (['b', 'd', 'e'], 120, set()))
        self.assertTrue(all(is_name(name) for name in names))


class WebRows(unittest.TestCase):
    def test_in_their_order(self):
        self.assertEqual(web_numbers(3, ('m',), ()), [(2, at) for at in range(4)] + [(3, at) for at in range(8)])
        self.assertEqual(web_numbers(60, (), ()), [(places, 0) for places in range(2, 61)])
        self.assertEqual(len(web_numbers(2, ('a', 'b'), ('a', 'b'))), 4096)

    def test_errors(self):
        self.assertEqual(told(web_numbers, 61, 0, 0), (BadNumber, 61))
        self.assertEqual(told(web_numbers, 60, ('b', 'a'), 0), (BadNames, ('b', 'a')))
        self.assertEqual(told(web_numbers, 60, ('a',), 0), (BadNames, 0))
        self.assertEqual(told(web_numbers, 12, ('a',), ()), (TooMany, 4096))


class Searches(unittest.TestCase):
    def test_next_standings(self):
        draw = random.Random(1)
        for _ in range(200):
            reader, web = drawn_reader(draw, 5, 2, 1), drawn_web(draw, 3)
            course = Course(reader, web)
            for standing in plain_standings(reader, web):
                self.assertEqual(next_standings(course, standing), plain_next(reader, web, standing))

    def test_chains(self):
        search = Search(reader_of('either 3 | take 1 a | go 0 | let', 'a'), Web('places 2'))
        # Chain 0 forks; behind 0 it takes, behind 1 it is let. The numbers that are taken lead to two forks.
        self.assertEqual(search.ends, [0, 1, LETS, 0, 2, 1, LETS])
        self.assertEqual([search.signs_ahead(chain) for chain in range(7)],
                         [(), (0,), (1,), (0, 0), (0, 1), (0, 1, 0), (0, 1, 1)])
        self.assertEqual(search.tallies(), [{1: 1, LETS: 1}, {0: 1, 2: 1}, {1: 1, LETS: 1}])
        self.assertEqual(Search(reader_of('go 0'), Web('places 2')).ends, [DEAD])


if __name__ == '__main__':
    unittest.main()
