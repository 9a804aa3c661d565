import unittest

from hardwraps.counting import piece_sizes
from hardwraps.errors import Conflict, InvalidIndex, InvalidPieces, InvalidWidths, NotFitting, NotWrapped
from hardwraps.reading import (
    count_lists, first_obstacle, list_index, nth_list, shortest_for_lines, shortest_widths,
)
from tests.support import (
    GREATEST, NOT_INTEGERS, NOT_WIDTHS, WIDE_LISTS, compositions, computed_columns, descent_by_rule,
    falling_lists, random_lists, small_lists, wrapped,
)

LONGEST = 9

# Values that are never a list of pieces.
NOT_PIECES = [
    None, True, 5, 0, '', '3', b'3', (), (3,), (3, 2), {}, {3: 2}, {3}, range(3), object(), list,
    [], [0], [-1], [True], [False], [None], ['3'], [[3]], [(3,)], [[]],
    [3, 0], [0, 3], [3, -2], [3, True], [True, 3], [3, '2'], [3, [2]], [3, 2, None],
    [10001], [10000, 1], [1, 10000], [5000, 5001], [10 ** 30], [10 ** 40, -10 ** 40], [25] * 400 + [1],
    [1] * 401, [3] * 1000,
]


def sizes(widths, length):
    return [len(piece) for piece in wrapped(widths, length)]


def columns_of(pieces):
    return [column for size in pieces for column in range(size)]


def cut(pieces, length):
    """Return the pieces of the first `length` characters."""
    found = []
    for size in pieces:
        if length > 0:
            found.append(min(size, length))
            length -= size
    return found


def fitting_lists():
    """Return a dict from all pieces of up to LONGEST characters to the lists that fit them, in order."""
    found = {}
    for length in range(1, LONGEST + 1):
        for pieces in compositions(length):
            found[tuple(pieces)] = []
        for widths in falling_lists(length):
            found[tuple(sizes(widths, length))].append(widths)
    return {pieces: sorted(lists) for pieces, lists in found.items()}


FITTING = fitting_lists()

# Pieces that some list gives.
READ = [list(pieces) for pieces, lists in FITTING.items() if lists]
LONG = [
    [1] * 400, [25] * 400, [10000], [5000, 5000], [9999, 1], [1, 1], [3, 2] * 200, [3, 2, 3] * 133 + [1],
    [13, 8, 5, 3] * 99 + [13, 1], [24] * 399 + [1], [70, 67] * 70,
]


class FirstObstacleTest(unittest.TestCase):
    """Points 9 (d), 15 and 16."""

    def test_example(self):
        self.assertEqual([first_obstacle([2, 3]), first_obstacle([3, 2, 3, 2])], [5, None])

    def test_by_definition(self):
        for pieces in FITTING:
            obstacles = [n for n in range(1, sum(pieces) + 1) if not FITTING[tuple(cut(pieces, n))]]
            expected = obstacles[0] if obstacles else None
            self.assertEqual(first_obstacle(list(pieces)), expected, pieces)

    def test_lists_in_any_order_explain_no_more(self):
        given = {tuple(sizes(widths, 8)) for widths in small_lists()}
        for pieces in compositions(8):
            if first_obstacle(pieces) is not None:
                self.assertNotIn(tuple(pieces), given)

    def test_pieces_of_widths(self):
        for widths in small_lists() + random_lists(11, 40, 60, 20):
            for length in (1, 2, 3, 11, 50, 150):
                self.assertIsNone(first_obstacle(sizes(widths, length)), (widths, length))

    def test_longer_than_the_first_piece(self):
        # The last piece may be shorter, but not longer, and is cut there.
        self.assertEqual([first_obstacle([4, 5]), first_obstacle([4, 9])], [9, 9])
        self.assertEqual([first_obstacle([4, 4]), first_obstacle([4, 3]), first_obstacle([4, 1])], [None] * 3)
        self.assertEqual([first_obstacle([1, 2]), first_obstacle([1, 1, 2])], [3, 4])

    def test_one_piece(self):
        self.assertEqual([first_obstacle([1]), first_obstacle([7]), first_obstacle([10000])], [None] * 3)

    def test_at_the_limits(self):
        for pieces in LONG:
            self.assertIsNone(first_obstacle(pieces))
        self.assertEqual(first_obstacle([24] * 398 + [25, 1]), 24 * 399 + 1)
        self.assertEqual(first_obstacle([24] * 399 + [25]), 24 * 399 + 25)
        self.assertEqual([first_obstacle([4999, 5001]), first_obstacle([1, 9999])], [9999, 3])
        self.assertEqual(first_obstacle([1] * 399 + [9601]), 401)


class ShortestWidthsTest(unittest.TestCase):
    """Points 9 (d), 15 and 16."""

    def test_example(self):
        self.assertEqual(shortest_widths([3, 2, 3, 2]), [5, 3])
        with self.assertRaises(NotWrapped) as caught:
            shortest_widths([2, 3])
        self.assertEqual(caught.exception.position, 5)

    def test_by_definition(self):
        for key, lists in FITTING.items():
            pieces = list(key)
            if lists:
                found = shortest_widths(pieces)
                self.assertEqual(found, descent_by_rule(columns_of(pieces)), pieces)
                self.assertIn(found, lists)
                self.assertEqual(len(found), min(len(widths) for widths in lists), pieces)
            else:
                with self.assertRaises(NotWrapped) as caught:
                    shortest_widths(pieces)
                self.assertEqual(caught.exception.position, first_obstacle(pieces), pieces)

    def test_gives_the_pieces(self):
        for widths in small_lists() + random_lists(12, 40, 60, 20):
            for length in (1, 11, 50, 150):
                pieces = sizes(widths, length)
                found = shortest_widths(pieces)
                self.assertEqual(piece_sizes(found, length), pieces, (widths, length))
                self.assertEqual(found, descent_by_rule(computed_columns(widths, length)))

    def test_one_piece(self):
        for size in (1, 2, 7, 9999, 10000):
            self.assertEqual(shortest_widths([size]), [])

    def test_at_the_limits(self):
        for pieces in LONG:
            self.assertEqual(piece_sizes(shortest_widths(pieces), sum(pieces)), pieces)
        self.assertEqual([shortest_widths([1] * 400), shortest_widths([25] * 400)], [[1], [25]])
        self.assertEqual([shortest_widths([9999, 1]), shortest_widths([5000, 5000])], [[9999], [5000]])
        self.assertEqual(shortest_widths([1] * 2), [1])
        with self.assertRaises(NotWrapped) as caught:
            shortest_widths([4999, 5001])
        self.assertEqual(caught.exception.position, 9999)

    def test_result_is_new(self):
        for pieces in ([4], [3, 2, 3, 2]):
            expected = shortest_widths(pieces)
            shortest_widths(pieces).append('more')
            self.assertEqual(shortest_widths(pieces), expected)


class ListsTest(unittest.TestCase):
    """Points 15 and 17: count_lists, nth_list and list_index."""

    def test_examples(self):
        self.assertEqual([count_lists([3, 2, 3, 2]), count_lists([2, 3]), count_lists([4])], [2, 0, 1])
        self.assertEqual([nth_list([3, 2, 3, 2], 0), nth_list([3, 2, 3, 2], 1)], [[5, 3], [8, 5, 3]])
        self.assertEqual(list_index([3, 2, 3, 2], [8, 5, 3]), 1)

    def test_all_lists_in_order(self):
        for key, lists in FITTING.items():
            pieces = list(key)
            self.assertEqual(count_lists(pieces), len(lists), pieces)
            self.assertEqual([nth_list(pieces, at) for at in range(len(lists))], lists, pieces)
            self.assertEqual([list_index(pieces, widths) for widths in lists], list(range(len(lists))), pieces)
            for index in (-1, len(lists), len(lists) + 1, 10 ** 50):
                self.assertRaises(InvalidIndex, nth_list, pieces, index)

    def test_lists_that_do_not_fit(self):
        for key, lists in FITTING.items():
            pieces = list(key)
            if sum(pieces) <= 7:
                for widths in falling_lists(9):
                    if widths not in lists:
                        self.assertRaises(NotFitting, list_index, pieces, widths)

    def test_lists_that_give_the_pieces_but_do_not_fall(self):
        for widths in ([5, 3, 3], [5, 5, 3], [5, 3, 4], [5, 8, 3], [10, 5, 3], [10000, 5, 3], [5, 3, 1000]):
            self.assertEqual(piece_sizes(widths, 10), [3, 2, 3, 2])
            self.assertRaises(NotFitting, list_index, [3, 2, 3, 2], widths)

    def test_lists_that_give_other_pieces(self):
        for widths in ([], [5], [3], [8, 5], [8, 3], [5, 2], [5, 3, 2], [9, 5, 3], [1], [8, 5, 3, 1]):
            self.assertRaises(NotFitting, list_index, [3, 2, 3, 2], widths)

    def test_one_piece(self):
        for size in (1, 2, 4, 10000):
            self.assertEqual([count_lists([size]), nth_list([size], 0), list_index([size], [])], [1, [], 0])
            self.assertRaises(InvalidIndex, nth_list, [size], 1)
            for widths in ([size], [1], [10000], [10000, 3]):
                self.assertRaises(NotFitting, list_index, [size], widths)

    def test_widths_as_wide_as_the_line_do_not_fit(self):
        self.assertEqual(piece_sizes([4], 4), [4])
        self.assertRaises(NotFitting, list_index, [4], [4])
        self.assertEqual(list_index([3, 1], [3]), 0)
        self.assertRaises(NotFitting, list_index, [3, 1], [4, 3])

    def test_no_list_fits(self):
        for pieces in ([2, 3], [1, 2], [4999, 5001], [24] * 399 + [25]):
            self.assertEqual(count_lists(pieces), 0)
            for index in (0, -1, 1):
                self.assertRaises(InvalidIndex, nth_list, pieces, index)
            for widths in ([], [2], [1], [24]):
                self.assertRaises(NotFitting, list_index, pieces, widths)

    def test_400_pieces(self):
        # Before the width 1 any of the widths 2 to 399 can run.
        ones = [1] * 400
        count = 2 ** 398
        self.assertEqual(count_lists(ones), count)
        self.assertEqual([nth_list(ones, 0), nth_list(ones, 1), nth_list(ones, 2)], [[1], [2, 1], [3, 1]])
        self.assertEqual(nth_list(ones, 3), [3, 2, 1])
        self.assertEqual(nth_list(ones, count - 1), list(range(399, 0, -1)))
        self.assertEqual(list_index(ones, list(range(399, 0, -1))), count - 1)
        for index in (count, count + 1, 10 ** 500, -1):
            self.assertRaises(InvalidIndex, nth_list, ones, index)
        self.assertEqual(count_lists([25] * 400), count)
        self.assertEqual(nth_list([25] * 400, count - 1), list(range(9975, 0, -25)))

    def test_indices_beyond_40_digits(self):
        for pieces in LONG:
            count = count_lists(pieces)
            for index in {0, count // 7, count // 3, count // 2, count - 2, count - 1, 10 ** 60 + 12345}:
                if 0 <= index < count:
                    widths = nth_list(pieces, index)
                    self.assertEqual(list_index(pieces, widths), index)
                    self.assertEqual(piece_sizes(widths, sum(pieces)), pieces)
                    self.assertEqual(widths, sorted(set(widths), reverse=True))
                    self.assertLess(sum(widths[:1]), sum(pieces))
        self.assertGreater(count_lists([1] * 400), 10 ** 60 + 12345)

    def test_10000_characters(self):
        self.assertEqual([count_lists([5000, 5000]), nth_list([5000, 5000], 0)], [1, [5000]])
        self.assertEqual([count_lists([9999, 1]), list_index([9999, 1], [9999])], [1, 0])
        self.assertEqual([count_lists([1, 9999]), count_lists([10000])], [0, 1])
        self.assertRaises(NotFitting, list_index, [10000], [10000])
        self.assertRaises(NotFitting, list_index, [5000, 5000], [10000, 5000])

    def test_the_shortest_list_is_one_of_them(self):
        for pieces in READ + LONG:
            widths = shortest_widths(pieces)
            self.assertEqual(nth_list(pieces, list_index(pieces, widths)), widths)

    def test_wrong_index(self):
        for index in NOT_INTEGERS + [-1, -GREATEST, 2, GREATEST]:
            self.assertRaises(InvalidIndex, nth_list, [3, 2, 3, 2], index)
        for index in NOT_INTEGERS:
            self.assertRaises(InvalidIndex, nth_list, [2, 3], index)
            self.assertRaises(InvalidIndex, nth_list, [1] * 400, index)

    def test_wrong_widths(self):
        for widths in NOT_WIDTHS:
            for pieces in ([3, 2, 3, 2], [2, 3], [4], [1] * 400):
                self.assertRaises(InvalidWidths, list_index, pieces, widths)

    def test_result_is_new(self):
        for pieces in ([4], [3, 2, 3, 2]):
            expected = nth_list(pieces, 0)
            nth_list(pieces, 0).append('more')
            self.assertEqual(nth_list(pieces, 0), expected)


class ShortestForLinesTest(unittest.TestCase):
    """Points 15 and 18."""

    def assert_conflict(self, lines, first, second):
        with self.assertRaises(Conflict) as caught:
            shortest_for_lines(lines)
        self.assertEqual((caught.exception.first, caught.exception.second), (first, second), lines)

    def assert_not_wrapped(self, lines, position):
        with self.assertRaises(NotWrapped) as caught:
            shortest_for_lines(lines)
        self.assertEqual(caught.exception.position, position, lines)

    def test_example(self):
        self.assertEqual(shortest_for_lines([[3, 1], [3, 2, 3, 2], [2]]), [5, 3])

    def test_one_line(self):
        for pieces in READ + LONG:
            self.assertEqual(shortest_for_lines([pieces]), shortest_widths(pieces))

    def test_lines_of_the_same_widths(self):
        for widths in small_lists()[::3] + random_lists(13, 20, 60, 20):
            lines = [sizes(widths, length) for length in (5, 90, 1, 61, 90, 30)]
            found = shortest_for_lines(lines)
            self.assertEqual(found, shortest_widths(lines[1]))
            for pieces in lines:
                self.assertEqual(piece_sizes(found, sum(pieces)), pieces)

    def test_no_line_is_broken(self):
        self.assertEqual([shortest_for_lines([[1]]), shortest_for_lines([[4], [10000], [7]])], [[], []])

    def test_pairs_by_definition(self):
        for one in FITTING:
            for other in FITTING:
                if sum(one) <= 5 and sum(other) <= 6:
                    self.check_pair(list(one), list(other))

    def check_pair(self, one, other):
        shared = min(sum(one), sum(other))
        longest = other if sum(other) > sum(one) else one
        if cut(one, shared) != cut(other, shared):
            self.assert_conflict([one, other], 0, 1)
        elif FITTING[tuple(longest)]:
            self.assertEqual(shortest_for_lines([one, other]), shortest_widths(longest))
        else:
            self.assert_not_wrapped([one, other], first_obstacle(longest))

    def test_the_smallest_first_and_then_the_smallest_second(self):
        self.assert_conflict([[3], [3], [2, 1], [2, 1]], 0, 2)
        self.assert_conflict([[1], [3], [2, 1], [1, 1]], 1, 2)
        # Both 1 and 2 are less than 4, but 0 is less than 1.
        self.assert_conflict([[2], [2, 2], [2, 1, 1], [2], [1, 1]], 0, 4)
        self.assert_conflict([[2], [2, 2], [2, 1, 1], [2], [2]], 1, 2)
        self.assert_conflict([[1], [4], [4, 1], [3, 1], [2, 2]], 1, 3)
        self.assert_conflict([[1], [1], [3], [2, 1]], 2, 3)

    def test_lines_disagree_only_at_positions_of_both(self):
        self.assertEqual(shortest_for_lines([[3], [3, 2, 3, 2], [3, 2, 1]]), [5, 3])
        self.assert_conflict([[4], [3, 2, 3, 2]], 0, 1)
        self.assertEqual(shortest_for_lines([[3, 2, 3, 2], [3, 2, 2]]), [5, 3])
        self.assert_conflict([[3, 2, 3, 2], [3, 3]], 0, 1)

    def test_conflict_comes_before_not_wrapped(self):
        self.assert_not_wrapped([[2, 3]], 5)
        self.assert_conflict([[2, 3], [1, 1]], 0, 1)
        self.assert_conflict([[2, 3], [2], [2, 2, 2]], 0, 2)

    def test_not_wrapped(self):
        self.assert_not_wrapped([[2], [2, 3]], 5)
        self.assert_not_wrapped([[2], [2, 3, 4], [2, 3]], 5)
        self.assert_not_wrapped([[2, 3], [2, 3]], 5)
        self.assert_not_wrapped([[4999, 5001], [4999]], 9999)

    def test_at_the_limits(self):
        forty = [[25] * many for many in range(361, 401)]
        self.assertEqual(len(forty), 40)
        self.assertEqual(shortest_for_lines(forty), [25])
        self.assertEqual(shortest_for_lines([[10000]] * 40), [])
        self.assert_conflict([[10000]] * 39 + [[9999, 1]], 0, 39)
        self.assert_conflict([[24]] * 38 + [[25], [24, 1]], 38, 39)

    def test_wrong_lines(self):
        wrong = [
            None, True, 0, 5, '', '3', b'3', (), ([3],), {}, {3}, {0: [3]}, object(), list,
            [], [3], [3, 2], [None], [True], ['3'], [(3, 2)], [[]], [[[3]]], [[3]] * 41, [[1] * 400] * 41,
        ]
        for lines in wrong + [[pieces] for pieces in NOT_PIECES]:
            self.assertRaises(InvalidPieces, shortest_for_lines, lines)

    def test_all_lines_are_checked_first(self):
        for pieces in NOT_PIECES:
            for lines in ([[3], pieces], [pieces, [3]], [[3], [2, 1], pieces], [[2, 3], pieces]):
                self.assertRaises(InvalidPieces, shortest_for_lines, lines)
        self.assertRaises(InvalidPieces, shortest_for_lines, [[3], [2, 1]] * 21)

    def test_result_is_new(self):
        for lines in ([[4]], [[3, 1], [3, 2, 3, 2]]):
            expected = shortest_for_lines(lines)
            shortest_for_lines(lines).append('more')
            self.assertEqual(shortest_for_lines(lines), expected)


class WrongArgumentsTest(unittest.TestCase):
    """Points 2, 3 and 15."""

    def test_wrong_pieces(self):
        for pieces in NOT_PIECES:
            self.assertRaises(InvalidPieces, first_obstacle, pieces)
            self.assertRaises(InvalidPieces, shortest_widths, pieces)
            self.assertRaises(InvalidPieces, count_lists, pieces)
            self.assertRaises(InvalidPieces, nth_list, pieces, 0)
            self.assertRaises(InvalidPieces, list_index, pieces, [])

    def test_pieces_are_checked_first(self):
        for pieces in ([0], (3, 2), [True], None, [10001], [1] * 401):
            for second in (-1, None, True, (), [0]):
                self.assertRaises(InvalidPieces, nth_list, pieces, second)
                self.assertRaises(InvalidPieces, list_index, pieces, second)

    def test_deeply_nested_value(self):
        value = []
        for _ in range(39):
            value = [value]
        self.assertRaises(InvalidPieces, first_obstacle, value)
        self.assertRaises(InvalidPieces, shortest_for_lines, value)

    def test_at_the_limits(self):
        for pieces in LONG + [[1], [10000]]:
            self.assertIsNone(first_obstacle(pieces))

    def test_by_name(self):
        self.assertEqual(first_obstacle(pieces=[2, 3]), 5)
        self.assertEqual(shortest_widths(pieces=[3, 2, 3, 2]), [5, 3])
        self.assertEqual(count_lists(pieces=[3, 2, 3, 2]), 2)
        self.assertEqual(nth_list(index=1, pieces=[3, 2, 3, 2]), [8, 5, 3])
        self.assertEqual(list_index(widths=[8, 5, 3], pieces=[3, 2, 3, 2]), 1)
        self.assertEqual(shortest_for_lines(lines=[[2], [3, 2]]), [3])

    def test_arguments_are_not_changed(self):
        pieces = [3, 2, 3, 2]
        widths = [8, 5, 3]
        lines = [[3, 1], [3, 2, 3, 2], [2]]
        first_obstacle(pieces)
        shortest_widths(pieces)
        count_lists(pieces)
        nth_list(pieces, 1)
        list_index(pieces, widths)
        shortest_for_lines(lines)
        self.assertEqual([pieces, widths, lines], [[3, 2, 3, 2], [8, 5, 3], [[3, 1], [3, 2, 3, 2], [2]]])

    def test_a_changed_argument_is_read_again(self):
        pieces = [3, 2, 3, 2]
        lines = [pieces]
        self.assertEqual([count_lists(pieces), shortest_for_lines(lines)], [2, [5, 3]])
        pieces.pop()
        self.assertEqual([count_lists(pieces), shortest_widths(pieces)], [1, [5, 3]])
        pieces.append(4)
        self.assertEqual([count_lists(pieces), first_obstacle(pieces)], [0, 12])
        self.assertRaises(NotWrapped, shortest_for_lines, lines)
        pieces[3] = 2
        self.assertEqual([count_lists(pieces), shortest_for_lines(lines)], [2, [5, 3]])

    def test_pieces_of_wide_lists(self):
        for widths in WIDE_LISTS:
            pieces = piece_sizes(widths, 300)
            self.assertEqual(piece_sizes(shortest_widths(pieces), 300), pieces)
