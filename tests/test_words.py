import unittest

from contraryrolls.words import (
    are_ascending_names, are_unlike_names, is_between, is_integer, is_name, is_roll, number_in, number_of, placed, powers,
    without)
from tests.kinds import values


class Words(unittest.TestCase):
    def test_integers(self):
        for value in values():
            self.assertIs(is_integer(value), type(value) is int)
            self.assertIs(is_between(value, 1, 59), type(value) is int and 1 <= value <= 59)
        self.assertEqual([is_between(value, 2, 4) for value in range(1, 6)], [False, True, True, True, False])

    def test_names(self):
        for value in values() + ['abcdefgh', 'z']:
            right = isinstance(value, str) and value in ('a', 'red', 'abcdefgh', 'z')
            self.assertIs(is_name(value), right)
        for value in ['', 'A', 'aB', 'a1', 'a b', 'a_', 'abcdefghi', '\u00e9', '\u00aa', 'a\n']:
            self.assertIs(is_name(value), False)

    def test_ascending_names(self):
        for value in [(), ('a',), ('a', 'b'), ('a', 'aa')]:
            self.assertIs(are_ascending_names(value, 2), True)
        for value in [('b', 'a'), ('a', 'a'), ('a', 'b', 'c'), ['a'], ('a', 1), None, 'ab']:
            self.assertIs(are_ascending_names(value, 2), False)

    def test_numbers(self):
        for number in [0, 1, 10, 60, 999999999]:
            self.assertEqual(number_in(str(number)), number)
        for word in ['', '00', '01', '+1', '-1', '-0', '1.0', '1_0', ' 1', '1 ', 'a', '1000000000', '0000000001', '9' * 5000,
                     '\u00b2', '\u0663']:
            self.assertEqual(number_in(word), -1)

    def test_unlike_names(self):
        for value in [(), ('a',), ('b', 'a'), ('a', 'aa', 'abcdefgh')]:
            self.assertIs(are_unlike_names(value), True)
        for value in [('a', 'a'), ['a'], 'a', None, ('A',), ('a', 1), ('a', ['b']), (('a',),), ('a', '')]:
            self.assertIs(are_unlike_names(value), False)

    def test_rolls(self):
        for value in [(), (0,), (0, 1), (10 ** 39, 7, 0)]:
            self.assertIs(is_roll(value), True)
        for value in [[], [0], (-1,), (0, -1), (True,), (0, '1'), None, '0', 0, ((0,),)]:
            self.assertIs(is_roll(value), False)

    def test_powers(self):
        self.assertEqual([powers(2, 0), powers(3, 4), powers(60, 2)], [[1], [1, 3, 9, 27, 81], [1, 60, 3600]])

    def test_numbers_of_figures(self):
        self.assertEqual([number_of((), 7), number_of((3,), 7), number_of([1, 0, 6], 7), number_of((1, 59), 60)], [0, 3, 55, 119])

    def test_one_name_more_or_less(self):
        for names in [(), ('b',), ('b', 'd', 'f'), ('a', 'aa', 'ab', 'b', 'zz')]:
            for name in ('a', 'b', 'ac', 'c', 'e', 'g', 'zzz'):
                if name not in names:
                    self.assertEqual(placed(names, name), tuple(sorted(names + (name,))))
                    self.assertEqual(without(placed(names, name), name), names)


if __name__ == '__main__':
    unittest.main()
