"""Values of many kinds that the tests pass in."""

from contraryrolls.errors import RollError
from contraryrolls.readers import Reader
from contraryrolls.webs import Web


def deep(depth):
    """A tuple, list and dict in one another, so deep."""
    value = 0
    for at in range(depth):
        value = ((value,), [value], {'k': value})[at % 3]
    return value


def values():
    """Values of all kinds, made anew at each call."""
    return [
        True, False, None, 0, 1, 2, -1, 59, 60, 61, 10 ** 39, -10 ** 39, '', 'a', 'red', '0', '1', 'places 2',
        (), (0,), (0, 1), (True,), ('a',), [], [0], [0, 1], ['a'], {}, {'a': 1}, {0: (1,)}, deep(60),
        Web('places 2'), Web('places 3\nmark red 0'), Reader('room 1\nboxes\nlet'), [Web('places 2')], object(),
        RollError(3),
    ]


def strings_left_out(kinds):
    return [value for value in kinds if not isinstance(value, str)]


def told(call, *args, **named):
    """What a call raises, as the error's class and value, or what it returns, as None and that."""
    try:
        return None, call(*args, **named)
    except RollError as error:
        return error.__class__, error.value
