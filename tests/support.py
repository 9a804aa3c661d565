"""What several tests share: wrapping done the slow way, and wrong values."""

import itertools
import random

GREATEST = 10 ** 30

# Values that are never an integer in the sense of the document.
NOT_INTEGERS = [None, True, False, '1', '', b'1', [1], [], (1,), (), {1: 1}, {1}, object(), int]

# Values that are never a list of widths.
NOT_WIDTHS = [
    None, True, 5, 0, '', '5', b'5', (), (5,), (5, 3), {}, {5: 3}, {5}, range(3), object(), list,
    [0], [-1], [10001], [10 ** 40], [True], [False], [None], ['5'], [[5]], [(5,)], [[]],
    [5, 0], [5, -3], [5, 10001], [5, True], [5, '3'], [0, 5], [5, [3]], [5, 3, None],
]

EXAMPLES = [
    [], [1], [2], [3], [7], [5, 3], [3, 5], [8, 5, 3], [10, 8, 5, 3], [18, 8, 5, 3], [7, 5, 3],
    [6, 3, 4], [5, 8, 3, 3, 2], [4, 4, 4], [9, 1, 5], [12, 7, 4, 3, 2], [20, 13, 11, 6, 4],
    [3, 7, 2, 9], [16, 8, 4, 2], [19, 12, 12, 5, 6, 2],
    list(range(40, 20, -1)), list(range(60, 0, -3)), list(range(1, 21)),
]


# Lists of 20 widths, and lists with the widest widths.
TWENTY = list(range(40, 20, -1))
WIDE = list(range(10000, 0, -517))
WIDE_LISTS = [
    TWENTY, WIDE, [10000], [10000, 1], [1, 10000], [10000, 9999], [10000, 5000], [9999, 70, 7],
    [10000, 9999, 4321, 77, 13], [10000, 5000, 2500, 1250, 625], [6000, 9000, 3001],
]


def random_lists(seed, many, widest, longest):
    """Return lists of widths that are the same in each run."""
    chance = random.Random(seed)
    lists = []
    for _ in range(many):
        size = chance.randint(1, longest)
        lists.append([chance.randint(1, widest) for _ in range(size)])
    return lists


def small_lists():
    """Return all lists of up to three widths from 1 to 6, and the examples."""
    lists = list(EXAMPLES)
    for many in range(4):
        lists.extend([list(widths) for widths in itertools.product(range(1, 7), repeat=many)])
    return lists


def wrapped(widths, length):
    """Return the pieces of a line, each one as the list of its positions."""
    pieces = [list(range(length))] if length else []
    for width in widths:
        shorter = []
        for piece in pieces:
            while len(piece) > width:
                shorter.append(piece[:width])
                piece = piece[width:]
            shorter.append(piece)
        pieces = shorter
    return pieces


def wrapped_columns(widths, length):
    """Return the columns of the characters of a line that was really wrapped."""
    return [at for piece in wrapped(widths, length) for at in range(len(piece))]


def computed_columns(widths, length):
    """Return the columns by point 9 (a), one position at a time."""
    columns = []
    for position in range(length):
        for width in widths:
            position %= width
        columns.append(position)
    return columns


def period_of(columns):
    """Return the least period of a list of columns, by point 7."""
    for period in range(1, len(columns) + 1):
        if all(columns[at] == columns[at + period] for at in range(len(columns) - period)):
            return period


def descent_by_rule(columns):
    """Return the descent of a list of columns, by point 8."""
    entries = []
    length = len(columns)
    while period_of(columns[:length]) < length:
        length = period_of(columns[:length])
        entries.append(length)
    return entries


def compositions(length):
    """Return all ways to break a line of this length into pieces."""
    if length == 0:
        return [[]]
    return [[size] + rest for size in range(1, length + 1) for rest in compositions(length - size)]


def falling_lists(length):
    """Return the lists of widths less than the length of which each is less than the one before it."""
    below = range(length - 1, 0, -1)
    return [list(widths) for many in range(length) for widths in itertools.combinations(below, many)]
