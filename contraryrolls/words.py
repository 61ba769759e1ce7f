"""What integers, names, rolls and numbers in texts are, and powers: shared by the other files."""

LONGEST_NAME = 8
MOST_FIGURES = 9


def is_integer(value):
    """Whether value is an integer: True and False are none."""
    return isinstance(value, int) and not isinstance(value, bool)


def is_between(value, low, high):
    """Whether value is an integer from low to high."""
    return is_integer(value) and low <= value <= high


def is_name(value):
    """Whether value is a string of one to eight letters a to z."""
    if not isinstance(value, str) or len(value) > LONGEST_NAME:
        return False
    return value.isascii() and value.isalpha() and value.islower()


def is_ascending(values):
    """Whether a tuple or list of values that can be compared is sorted, none of them twice."""
    return all([low < high for low, high in zip(values, values[1:])])


def are_ascending_names(value, most):
    """Whether value is an ascending tuple of at most so many names."""
    if not isinstance(value, tuple) or len(value) > most:
        return False
    return all([is_name(name) for name in value]) and is_ascending(value)


def are_unlike_names(value):
    """Whether value is a tuple of names, none of them twice."""
    if not isinstance(value, tuple) or not all([is_name(name) for name in value]):
        return False
    return len(set(value)) == len(value)


def number_in(word):
    """The number that a word of a text is as Python writes it; -1 if it is none, or too long."""
    if len(word) > MOST_FIGURES or not (word.isascii() and word.isdigit()):
        return -1
    number = int(word)
    return number if str(number) == word else -1


def is_roll(value):
    """Whether value is a tuple of integers from 0 on."""
    if not isinstance(value, tuple):
        return False
    return all([is_integer(sign) and sign >= 0 for sign in value])


def powers(base, most):
    """The list of the powers of base, from the one with exponent 0 to the one with exponent most."""
    told = [1]
    for _ in range(most):
        told.append(told[-1] * base)
    return told


def number_of(figures, base):
    """The number with these figures at this base, the highest one first."""
    number = 0
    for figure in figures:
        number = number * base + figure
    return number


def place_in(values, value):
    """How many of these ascending values are below this one."""
    low = 0
    high = len(values)
    while low < high:
        half = (low + high) // 2
        if values[half] < value:
            low = half + 1
        else:
            high = half
    return low


def placed(names, name):
    """An ascending tuple of names with one more, which is not in it."""
    at = place_in(names, name)
    return (*names[:at], name, *names[at:])


def without(names, name):
    """An ascending tuple of names without one of them."""
    at = place_in(names, name)
    return (*names[:at], *names[at + 1:])
