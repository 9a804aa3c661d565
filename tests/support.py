"""What several tests share: wrapping done the slow way, and wrong values."""

import itertools

GREATEST = 10 ** 30

# Values that are never an integer in the sense of the document.
NOT_INTEGERS = [None, True, False, '1', '', b'1', [1], [], (1,), (), {1: 1}, {1}, object(), int]

# Values that are never a list of widths.
NOT_WIDTHS = [
    None, True, 5, 0, '', '5', b'5', (), (5,), (5, 3), {}, {5: 3}, {5}, range(3), object(), list,
    [0], [-1], [10001], [10 ** 40], [True], [False], [None], ['5'], [[5]], [(5,)], [[]],
    [5, 0], [5, -3], [5, 10001], [5, True], [5, '3'], [0, 5], [5, [3]], [5, 3, None],
]

EXAMPLES = [
    [], [1], [2], [3], [7], [5, 3], [3, 5], [8, 5, 3], [10, 8, 5, 3], [18, 8, 5, 3], [7, 5, 3],
    [6, 3, 4], [5, 8, 3, 3, 2], [4, 4, 4], [9, 1, 5], [12, 7, 4, 3, 2], [20, 13, 11, 6, 4],
    [3, 7, 2, 9], [16, 8, 4, 2], [19, 12, 12, 5, 6, 2],
    list(range(40, 20, -1)), list(range(60, 0, -3)), list(range(1, 21)),
]


def small_lists():
    """Return all lists of up to three widths from 1 to 6, and the examples."""
    lists = list(EXAMPLES)
    for many in range(4):
        lists.extend([list(widths) for widths in itertools.product(range(1, 7), repeat=many)])
    return lists


def wrapped(widths, length):
    """Return the pieces of a line, each one as the list of its positions."""
    pieces = [list(range(length))] if length else []
    for width in widths:
        shorter = []
        for piece in pieces:
            while len(piece) > width:
                shorter.append(piece[:width])
                piece = piece[width:]
            shorter.append(piece)
        pieces = shorter
    return pieces


def wrapped_columns(widths, length):
    """Return the columns of the characters of a line that was really wrapped."""
    return [at for piece in wrapped(widths, length) for at in range(len(piece))]
