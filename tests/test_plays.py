import itertools
import random
import time
import unittest

from contraryrolls import plays
from contraryrolls.errors import BadNumber, BadRoll, TooMany
from contraryrolls.plays import lets_web, play, roll_of, rolls_many, standings_many, within_steps
from contraryrolls.readers import Reader
from contraryrolls.webs import Web
from tests.kinds import told, values
from tests.plain import (
    drawn_reader, drawn_row, drawn_web, plain_lets, plain_levels, plain_play, plain_standings, reader_of, rolls_to,
    WORDS)

WEB = Web('places 3\nmark red 0 2\narrow to 0-1 1-2')


def after(rows, row, web=WEB, roll=(), boxes='a b', room=2):
    """Whether a row, behind some others, goes on to its L: its last word is left out."""
    goal = len(rows) + 2
    return play(reader_of([*rows, f'{row} {goal}', 'refuse', 'let'], boxes, room), web, roll)[0] == 'let'


class Example(unittest.TestCase):
    def test_point_5(self):
        rows = ['edge 1 here 6', 'take 1 next', 'arrow to here next 4', 'refuse', 'put here next', 'go 0', 'let']
        reader = Reader('\n'.join(['room 1', 'boxes here next'] + rows))
        web = Web('places 3\narrow to 0-1 1-2')
        self.assertEqual(
            [play(reader, web, roll) for roll in ((1, 2), (1, 2, 7), (2,), (1,), (3,))],
            [('let', 2), ('let', 2), ('refused', 3), ('ended', 1), ('refused', 1)])
        self.assertEqual(
            [lets_web(reader, web), roll_of(reader, web), standings_many(reader, web), within_steps(reader, web, 4)],
            [True, (1, 2), 20, (1, 2, 5, 8, 9)])
        self.assertEqual(
            [rolls_many(reader, web, 2), rolls_many(reader, web, 3),
             roll_of(reader, Web('places 3\narrow to 0-1 2-1'))], [1, 0, None])
        self.assertEqual(
            [play(Reader('room 1\nboxes\ngo 0'), web, ()), play(Reader('room 1\nboxes a\nup a'), web, (5,))],
            [('round',), ('refused', 1)])

    def test_where_they_are_defined(self):
        for call in (play, lets_web, standings_many, within_steps, roll_of, rolls_many):
            self.assertEqual(call.__module__, 'contraryrolls.plays')
            self.assertIs(getattr(plays, call.__name__), call)


class Rows(unittest.TestCase):
    def test_same_and_less(self):
        for one, other in itertools.product(range(9), repeat=2):
            rows = [f'set a {one}', f'set b {other}']
            self.assertIs(after(rows, 'same a b'), one == other)
            self.assertIs(after(rows, 'less a b'), one < other)
        self.assertIs(after(['set a 4'], 'same a a'), True)
        self.assertIs(after(['set a 4'], 'less a a'), False)

    def test_is(self):
        for number in range(9):
            self.assertIs(after([f'set a {number}'], 'is a 4'), number == 4)
        for number in (9, 10, 999999999):
            self.assertIs(after(['set a 8'], f'is a {number}'), False)

    def test_within_and_edge_at_their_borders(self):
        for number, power in itertools.product(range(9), range(3)):
            self.assertIs(after([f'set a {number}'], f'within {power} a'), number < 3 ** power)
            self.assertIs(after([f'set a {number}'], f'edge {power} a'), number == 3 ** power - 1)
        big = Web('places 60')
        self.assertIs(after([], 'within 0 a', big), True)
        self.assertIs(after(['up a'], 'within 0 a', big), False)
        self.assertIs(after([], 'edge 0 a', big), True)
        self.assertIs(after(['set a 3599'], 'edge 2 a', big), True)
        self.assertIs(after(['set a 3598'], 'edge 2 a', big), False)
        reader = reader_of('take 20 a | edge 20 a 3 | within 19 a 4 | let | refuse', 'a', 20)
        self.assertEqual([play(reader, big, (sign,)) for sign in (60 ** 20 - 1, 60 ** 19, 60 ** 19 - 1, 60 ** 20)],
                         [('let', 1), ('let', 1), ('refused', 4), ('refused', 0)])

    def test_mark(self):
        for number in range(9):
            self.assertIs(after([f'set a {number}'], 'mark red a'), number in (0, 2))
            self.assertIs(after([f'set a {number}'], 'mark to a'), False)
            self.assertIs(after([f'set a {number}'], 'mark blue a'), False)

    def test_arrow(self):
        for one, other in itertools.product(range(9), repeat=2):
            rows = [f'set a {one}', f'set b {other}']
            self.assertIs(after(rows, 'arrow to a b'), (one, other) in ((0, 1), (1, 2)))
            self.assertIs(after(rows, 'arrow red a b'), False)
            self.assertIs(after(rows, 'arrow far a b'), False)
        loop = Web('places 2\narrow to 1-1')
        self.assertIs(after(['up a'], 'arrow to a a', loop), True)
        self.assertIs(after([], 'arrow to a a', loop), False)

    def test_set_up_and_put(self):
        for places, room in ((2, 1), (2, 3), (3, 2), (60, 1)):
            web, bound = Web(f'places {places}'), places ** room
            for number in (0, 1, bound - 1, bound, bound + 1, 999999999):
                result = play(reader_of(f'set a {number} | is a {number} 3 | refuse | let', 'a', room), web, ())
                self.assertEqual(result, ('let', 0) if number < bound else ('refused', 0))
            for number in {0, bound - 2, bound - 1}:
                result = play(reader_of(f'set a {number} | up a | is a {number + 1} 4 | refuse | let', 'a', room), web, ())
                self.assertEqual(result, ('let', 0) if number + 1 < bound else ('refused', 1))
        rows = ['set a 5', 'set b 7', 'put a b']
        self.assertTrue(after(rows, 'is a 7') and after(rows, 'is b 7'))
        self.assertTrue(after(['set a 5', 'put b a', 'up a'], 'is b 5'))
        self.assertTrue(after(['set a 5', 'put a a'], 'is a 5'))

    def test_take(self):
        for power in range(3):
            reader = reader_of(f'take {power} a | is a {3 ** power - 1} 3 | go 0 | let', 'a', 2)
            bound = 3 ** power
            self.assertEqual(play(reader, WEB, (bound - 1,)), ('let', 1))
            for sign in (bound, bound + 1, 10 ** 39):
                self.assertEqual(play(reader, WEB, (sign,)), ('refused', 0))
            self.assertEqual(play(reader, WEB, ()), ('ended', 0))
        reader = reader_of('take 1 a | take 1 b | less a b 4 | refuse | let', 'a b')
        self.assertEqual([play(reader, WEB, roll) for roll in ((1, 2), (2, 1), (1,), (3, 0), (0, 3), (0, 1, 9))],
                         [('let', 2), ('refused', 3), ('ended', 1), ('refused', 0), ('refused', 1), ('let', 2)])

    def test_either(self):
        reader = reader_of('either 2 | refuse | let')
        self.assertEqual([play(reader, WEB, roll) for roll in ((0,), (1,), (2,), (3,), (10 ** 30,), (), (1, 0))],
                         [('refused', 1), ('let', 1), ('refused', 0), ('refused', 0), ('refused', 0), ('ended', 0),
                          ('let', 1)])
        self.assertEqual(play(reader_of('either 1 | let'), WEB, (0,)), ('let', 1))
        self.assertEqual(play(reader_of('either 1 | let'), WEB, (2,)), ('refused', 0))

    def test_go_let_refuse(self):
        self.assertEqual(play(reader_of('go 2 | refuse | let | refuse'), WEB, ()), ('let', 0))
        self.assertEqual(play(reader_of('let'), WEB, (0, 1)), ('let', 0))
        self.assertEqual(play(reader_of('go 1 | refuse'), WEB, ()), ('refused', 1))

    def test_all_boxes_are_0_at_first(self):
        reader = reader_of('is a 0 2 | refuse | is b 0 4 | refuse | let', 'a b', 3)
        self.assertEqual(play(reader, WEB, ()), ('let', 0))


class Ends(unittest.TestCase):
    def test_behind_the_last_row(self):
        for row, roll in [('take 1 a', (0,)), ('either 0', (0,)), ('same a b 0', ()), ('less a b 0', ()),
                          ('is a 0 0', ()), ('within 0 a 0', ()), ('edge 0 a 0', ()), ('mark red a 0', ()),
                          ('arrow to a b 0', ()), ('set a 0', ()), ('put a b', ()), ('up a', ())]:
            # Box a is 1 there, so no test of the last row is so.
            reader = reader_of(['set a 1', row], 'a b')
            self.assertEqual(play(reader, WEB, roll), ('refused', 2), row)
            self.assertIs(lets_web(reader, WEB), False)
            self.assertEqual(standings_many(reader, WEB), 3 if row == 'either 0' else 2)
        self.assertEqual(play(reader_of('go 1 | set a 3', 'a'), WEB, ()), ('refused', 1))

    def test_ended(self):
        reader = reader_of('take 1 a | either 0 | let', 'a')
        self.assertEqual([play(reader, WEB, roll) for roll in ((), (0,), (0, 1), (0, 1, 2), (0, 0), (0, 1, 1, 0, 5))],
                         [('ended', 0), ('ended', 1), ('ended', 0), ('ended', 1), ('let', 2), ('let', 4)])

    def test_signs_behind_the_end_change_nothing(self):
        draw = random.Random(2)
        for _ in range(200):
            reader, web = drawn_reader(draw, 5, 2, 1), drawn_web(draw, 2)
            for length in range(4):
                roll = tuple(draw.randrange(3) for _ in range(length))
                result = play(reader, web, roll)
                if result[0] != 'ended':
                    self.assertEqual(play(reader, web, roll + (9, 0, 10 ** 39)), result)
                if result[0] == 'let' and result[1] > 0:
                    self.assertNotEqual(play(reader, web, roll[:result[1] - 1])[0], 'let')
                if result[0] == 'let':
                    self.assertEqual(play(reader, web, roll[:result[1]]), result)

    def test_round(self):
        self.assertEqual(play(reader_of('go 0'), WEB, (0, 0)), ('round',))
        self.assertEqual(play(reader_of('go 1 | go 0'), WEB, ()), ('round',))
        self.assertEqual(play(reader_of('set a 1 | set a 0 | go 0', 'a'), WEB, ()), ('round',))
        self.assertEqual(play(reader_of('same a a 0', 'a'), WEB, ()), ('round',))
        # Here the numbers count on, and at last there is no room for them.
        self.assertEqual(play(reader_of('up a | go 0', 'a', 2), WEB, ()), ('refused', 0))
        self.assertEqual(play(reader_of('up a | edge 2 a 3 | go 0 | let', 'a', 2), WEB, ()), ('let', 0))
        # The number comes again at last, but behind many rows.
        self.assertEqual(play(reader_of('up a | edge 2 a 3 | go 0 | set a 0 | go 0', 'a', 2), WEB, ()), ('round',))
        # The same numbers come at other rows only.
        self.assertEqual(play(reader_of('go 2 | let | go 1'), WEB, ()), ('let', 0))

    def test_no_round_where_a_sign_was_taken_in_between(self):
        reader = reader_of('take 1 a | either 3 | go 0 | let', 'a')
        roll = (1, 0) * 500
        self.assertEqual(play(reader, WEB, roll), ('ended', 0))
        self.assertEqual(play(reader, WEB, roll + (1, 1)), ('let', 1002))
        # Ahead of the sign the row was come to, too; then it comes round without one.
        reader = reader_of('is b 1 4 | either 0 | set b 1 | go 0 | is a 0 0 | let', 'a b')
        self.assertEqual(play(reader, WEB, (1, 1, 1, 0)), ('round',))
        self.assertEqual(play(reader, WEB, (1, 1, 1)), ('ended', 1))

    def test_long_plays(self):
        web = Web('places 60')
        reader = reader_of('up a | is a 150000 3 | go 0 | let', 'a', 3)
        self.assertEqual(play(reader, web, ()), ('let', 0))
        reader = reader_of('up a | is a 150000 3 | go 0 | set a 0 | go 0', 'a', 3)
        self.assertEqual(play(reader, web, ()), ('round',))
        reader = reader_of('up a | go 0', 'a', 3)
        self.assertEqual(play(reader, web, ()), ('refused', 0))
        # A round of a million rows, far behind the beginning.
        reader = reader_of('up a | is a 100000 3 | go 0 | up b | edge 3 b 6 | go 3 | set b 0 | go 3', 'a b', 3)
        self.assertEqual(play(reader, web, ()), ('round',))
        reader = reader_of('take 1 a | go 0', 'a')
        self.assertEqual(play(reader, web, (0, 59) * 150000), ('ended', 0))
        self.assertEqual(play(reader, web, (0, 59) * 150000 + (60,)), ('refused', 0))


class Rolls(unittest.TestCase):
    def test_bad_rolls(self):
        reader = reader_of('let')
        bad = [value for value in values() if value not in ((), (0,), (0, 1)) or value is False]
        for value in bad + [[0], [], (0, -1), (-1,), (True,), (0, False), '0', 'let', None, (0, '1'), ((0,),), (0, None),
                            (1.0,), range(3), {0: 1}, (0, [1])]:
            for call in (reader, reader_of('take 1 a', 'a')):
                error, kept = told(play, call, WEB, value)
                self.assertIs(error, BadRoll)
                self.assertIs(kept, value)
        for value in ((), (0,), (0, 1), (10 ** 39, 0)):
            self.assertEqual(play(reader, WEB, value), ('let', 0))

    def test_against_a_plain_play(self):
        draw = random.Random(5)
        ends = set()
        for _ in range(3000):
            room = draw.randint(1, 2)
            reader = drawn_reader(draw, draw.randint(1, 8), draw.randint(0, 3), room)
            web = drawn_web(draw, draw.randint(2, 3))
            for _ in range(3):
                roll = tuple(draw.randrange(draw.choice([2, 2, 4, 10])) for _ in range(draw.randint(0, 8)))
                result = play(reader, web, roll)
                self.assertEqual(result, plain_play(reader, web, roll), (reader.text, web.text, roll))
                self.assertIs(type(result), tuple)
                ends.add(result[0])
        self.assertEqual(ends, {'let', 'refused', 'ended', 'round'})


class Standings(unittest.TestCase):
    def test_against_going_through_all_standings(self):
        draw = random.Random(7)
        for _ in range(1500):
            reader = drawn_reader(draw, draw.randint(1, 8), draw.randint(0, 2), draw.randint(1, 2))
            web = drawn_web(draw, draw.randint(2, 3))
            levels = plain_levels(reader, web)
            many = [sum(len(level) for level in levels[:at + 1]) for at in range(len(levels))]
            self.assertEqual(standings_many(reader, web), many[-1])
            self.assertIs(lets_web(reader, web), plain_lets(reader, web))
            for steps in (0, 1, 5, len(levels) - 1, len(levels) + 3):
                self.assertEqual(within_steps(reader, web, steps),
                                 tuple(many[min(at, len(many) - 1)] for at in range(steps + 1)))
            roll = roll_of(reader, web)
            self.assertEqual(roll is None, not lets_web(reader, web))
            if roll is not None:
                self.assertEqual(play(reader, web, roll), ('let', len(roll)))
                self.assertEqual(plain_play(reader, web, roll), ('let', len(roll)))

    def test_against_all_rolls_of_small_lengths(self):
        draw = random.Random(8)
        counted = 0
        for _ in range(400):
            words = draw.choice([WORDS, ['take', 'take', 'either', 'either', 'less', 'mark', 'up']])
            many = draw.randint(1, 6)
            reader = reader_of([drawn_row(draw, many + 1, 'ab', 1, words) for _ in range(many)] + ['let'], 'a b')
            web = drawn_web(draw, draw.randint(2, 3))
            fewest = None
            for length in range(5):
                many = sum(1 for roll in rolls_to(web.places, length)
                           if plain_play(reader, web, roll) == ('let', length))
                self.assertEqual(rolls_many(reader, web, length), many, reader.text)
                counted += many > 1
                if many and fewest is None:
                    fewest = length
            if fewest is not None:
                self.assertEqual(len(roll_of(reader, web)), fewest)
            elif lets_web(reader, web):
                self.assertGreater(len(roll_of(reader, web)), 4)
        self.assertGreater(counted, 50)

    def test_by_no_roll_by_the_empty_one_by_long_ones(self):
        none = reader_of('take 1 a | go 0', 'a')
        self.assertEqual([lets_web(none, WEB), roll_of(none, WEB), rolls_many(none, WEB, 0), rolls_many(none, WEB, 200)],
                         [False, None, 0, 0])
        empty = reader_of('let')
        self.assertEqual([lets_web(empty, WEB), roll_of(empty, WEB), rolls_many(empty, WEB, 0), rolls_many(empty, WEB, 1)],
                         [True, (), 1, 0])
        # By no roll that is shorter than 101 signs; then one may be longer.
        web = Web('places 10')
        long = reader_of('take 1 b | up a | edge 2 a 4 | go 0 | take 1 b | either 4 | let', 'a b', 2)
        self.assertEqual(len(roll_of(long, web)), 101)
        self.assertEqual([rolls_many(long, web, length) for length in (0, 99, 100, 101, 102, 103, 105)],
                         [0, 0, 0, 10 ** 100, 0, 10 ** 101, 10 ** 102])
        self.assertEqual(rolls_many(long, web, 200), 0)
        self.assertEqual(rolls_many(long, web, 199), 10 ** 149)

    def test_what_is_let_without_all_signs_taken_is_not_counted(self):
        reader = reader_of('either 2 | take 1 a | let', 'a')
        self.assertEqual([rolls_many(reader, WEB, length) for length in range(4)], [0, 1, 3, 0])
        self.assertEqual(play(reader, WEB, (1, 0)), ('let', 1))
        # Both signs lead to one row: these are two rolls.
        self.assertEqual(rolls_many(reader_of('either 1 | let'), WEB, 1), 2)
        self.assertEqual(rolls_many(reader_of('take 0 a | let', 'a'), WEB, 1), 1)

    def test_rounds(self):
        reader = reader_of('either 2 | go 1 | either 0 | let')
        self.assertEqual([lets_web(reader, WEB), roll_of(reader, WEB), standings_many(reader, WEB)], [True, (1, 0), 4])
        self.assertEqual([rolls_many(reader, WEB, length) for length in range(7)], [0, 0, 1, 0, 1, 0, 1])
        reader = reader_of('go 0')
        self.assertEqual([lets_web(reader, WEB), standings_many(reader, WEB), within_steps(reader, WEB, 3)],
                         [False, 1, (1, 1, 1, 1)])

    def test_steps(self):
        reader = reader_of('up a | go 0', 'a', 2)
        self.assertEqual(within_steps(reader, WEB, 0), (1,))
        self.assertEqual(within_steps(reader, WEB, 20), tuple(range(1, 18)) + (17,) * 4)
        self.assertEqual(within_steps(reader_of('up a | go 0', 'a', 3), Web('places 30'), 1000), tuple(range(1, 1002)))


class Bounds(unittest.TestCase):
    def test_bad_numbers(self):
        # It has more than 100,000 standings, which is told only if the number is right.
        many = reader_of('take 3 a | let', 'a', 3)
        web = Web('places 60')
        for call, most in ((within_steps, 1000), (rolls_many, 200)):
            for value in values() + [-1, most + 1, 10 ** 39, 1.0]:
                right = type(value) is int and 0 <= value <= most
                error, kept = told(call, many, web, value)
                self.assertEqual(error, TooMany if right else BadNumber)
                if right:
                    self.assertEqual(kept, 100000)
                else:
                    self.assertIs(kept, value)
            for value in (0, 1, most):
                self.assertIsNone(told(call, reader_of('let'), web, value)[0])

    def test_just_so_many_standings_and_one_more(self):
        # Three rows for each number below the last one, then the row 0 and three or four others.
        web = Web('places 60')
        for rows, many in (('is a 33332 3 | up a | go 0 | go 4 | go 5 | let', 100000),
                           ('is a 33332 3 | up a | go 0 | go 4 | go 5 | go 6 | let', 100001)):
            reader = reader_of(rows, 'a', 3)
            for call, result in ((lets_web, True), (standings_many, 100000), (roll_of, ())):
                if many == 100000:
                    self.assertEqual(call(reader, web), result)
                else:
                    self.assertEqual(told(call, reader, web), (TooMany, 100000))
            if many == 100000:
                self.assertEqual(within_steps(reader, web, 1000), tuple(range(1, 1002)))
                self.assertEqual([rolls_many(reader, web, 0), rolls_many(reader, web, 1)], [1, 0])
            else:
                self.assertEqual(told(within_steps, reader, web, 0), (TooMany, 100000))
                self.assertEqual(told(rolls_many, reader, web, 0), (TooMany, 100000))

    def test_just_so_many_by_signs(self):
        web = Web('places 10')
        # 1 and 10 and 100 and so on, up to 10 ** 5; boxes that are taken again are forgotten.
        reader = reader_of('take 4 a | take 1 b | refuse', 'a b', 5)
        self.assertEqual(told(standings_many, reader, web), (TooMany, 100000))
        self.assertEqual(standings_many(reader_of('take 4 a | take 1 b | refuse', 'a b', 4), Web('places 6')),
                         1 + 6 ** 4 + 6 ** 5)
        self.assertEqual(standings_many(reader_of('take 5 a | let', 'a', 5), Web('places 9')), 1 + 9 ** 5)
        self.assertEqual(told(standings_many, reader_of('take 5 a | let', 'a', 5), web), (TooMany, 100000))
        # Behind the last row there is no standing.
        self.assertEqual(standings_many(reader_of('take 20 a', 'a', 20), web), 1)
        # The same numbers come again and again.
        reader = reader_of('take 2 a | take 2 b | go 0', 'a b', 2)
        self.assertEqual(standings_many(reader, Web('places 13')), 3 * 13 ** 4)

    def test_a_web_that_is_let_is_told_only_within_the_bound(self):
        reader = reader_of('either 3 | take 3 a | refuse | let', 'a', 3)
        for call in (lets_web, roll_of):
            self.assertEqual(told(call, reader, Web('places 60')), (TooMany, 100000))
        self.assertEqual(roll_of(reader, Web('places 40')), (1,))

    def test_running_time(self):
        begun = time.monotonic()
        for rows, boxes, room in (
                ('take 20 a | take 20 b | let', 'a b', 20), ('take 2 a | take 2 b | take 2 c | let', 'a b c', 2),
                ('up a | go 0', 'a', 20), ('take 2 a | take 1 b | up c | go 0', 'a b c', 5),
                ('take 1 a | take 1 b | take 1 c | take 1 d | take 1 e | go 0', 'a b c d e', 1)):
            reader = reader_of(rows, boxes, room)
            for call in (lets_web, standings_many, roll_of):
                self.assertEqual(told(call, reader, Web('places 60')), (TooMany, 100000))
            self.assertEqual(told(within_steps, reader, Web('places 60'), 1000), (TooMany, 100000))
            self.assertEqual(told(rolls_many, reader, Web('places 60'), 200), (TooMany, 100000))
        self.assertLess(time.monotonic() - begun, 60)
        begun = time.monotonic()
        reader = reader_of('take 2 a | take 2 b | go 0', 'a b', 2)
        self.assertEqual(standings_many(reader, Web('places 13')), 85683)
        self.assertEqual(rolls_many(reader, Web('places 13'), 200), 0)
        self.assertEqual(within_steps(reader, Web('places 13'), 1000)[-1], 85683)
        boxes = [one + other for one in 'abcdefghij' for other in 'abcdefghijkl']
        reader = reader_of([f'take 2 {boxes[119]}', f'take 2 {boxes[0]}', 'go 0'], ' '.join(boxes), 2)
        self.assertEqual(standings_many(reader, Web('places 13')), 85683)
        self.assertLess(time.monotonic() - begun, 60)


class Calls(unittest.TestCase):
    def test_by_names_in_another_sequence(self):
        reader = reader_of('take 1 a | mark red a 3 | refuse | let', 'a')
        self.assertEqual(play(roll=(2,), web=WEB, reader=reader), ('let', 1))
        self.assertEqual(lets_web(web=WEB, reader=reader), True)
        self.assertEqual(standings_many(web=WEB, reader=reader), 7)
        self.assertEqual(within_steps(steps=2, web=WEB, reader=reader), (1, 4, 7))
        self.assertEqual(roll_of(web=WEB, reader=reader), (0,))
        self.assertEqual(rolls_many(length=1, web=WEB, reader=reader), 2)

    def test_equal_calls_and_unchanged_arguments(self):
        draw = random.Random(3)
        for _ in range(50):
            reader, web = drawn_reader(draw, 6, 2, 1), drawn_web(draw, 3)
            again, web_again = Reader(reader.text), Web(web.text)
            kept = (reader.text, reader.rows, reader.boxes, web.text, web.marks, web.arrows)
            for call, rest in ((play, ((0, 1, 2),)), (lets_web, ()), (standings_many, ()), (within_steps, (7,)),
                               (roll_of, ()), (rolls_many, (2,))):
                self.assertEqual(call(reader, web, *rest), call(reader, web, *rest))
                self.assertEqual(call(reader, web, *rest), call(again, web_again, *rest))
            self.assertEqual(kept, (reader.text, reader.rows, reader.boxes, web.text, web.marks, web.arrows))

    def test_all_standings_are_those_of_the_plain_reckoning(self):
        reader = reader_of('take 1 a | take 1 b | less a b 0 | let', 'a b')
        self.assertEqual(standings_many(reader, WEB), len(plain_standings(reader, WEB)))


if __name__ == '__main__':
    unittest.main()
