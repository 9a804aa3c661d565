import unittest

from hardwraps.counting import count_of_length, count_pieces, nth_break, piece_lengths, piece_sizes
from hardwraps.errors import InvalidIndex, InvalidLength, InvalidWidths, TooMany
from hardwraps.wrapping import is_break, last_break
from tests.support import EXAMPLES, GREATEST, NOT_INTEGERS, NOT_WIDTHS, small_lists, wrapped

NOT_LENGTHS = NOT_INTEGERS + [-1, -GREATEST, GREATEST + 1, 10 ** 39]
TWENTY = list(range(40, 20, -1))
WIDE = list(range(10000, 0, -517))
GREAT_CASES = EXAMPLES + [[10000], [10000, 1], [9999, 70, 7], WIDE]


def sizes(widths, length):
    return [len(piece) for piece in wrapped(widths, length)]


def reduced_sizes(widths):
    """Return the lengths that point 9 (e) names, for widths that become less and less."""
    found = {widths[-1]}
    for at, width in enumerate(widths):
        for later in widths[at + 1:]:
            width %= later
        found.add(width)
    return sorted(found - {0})


class PieceSizesTest(unittest.TestCase):
    """Points 1, 5, 9 (f) and 11."""

    def test_example(self):
        self.assertEqual(piece_sizes([8, 5, 3], 12), [3, 2, 3, 3, 1])

    def test_as_wrapped(self):
        for widths in small_lists():
            for length in (0, 1, 2, 5, 12, 30, 41):
                self.assertEqual(piece_sizes(widths, length), sizes(widths, length), (widths, length))

    def test_length_0_has_no_pieces(self):
        self.assertEqual([piece_sizes([], 0), piece_sizes([5, 3], 0)], [[], []])

    def test_without_widths(self):
        self.assertEqual([piece_sizes([], 1), piece_sizes([], GREATEST)], [[1], [GREATEST]])

    def test_400_pieces(self):
        self.assertEqual(piece_sizes([1], 400), [1] * 400)
        self.assertEqual(piece_sizes([10000], 4000000), [10000] * 400)
        self.assertEqual(piece_sizes([10000], 3990001), [10000] * 399 + [1])
        self.assertEqual(piece_sizes([5, 3], 1000), [3, 2] * 200)
        self.assertEqual(piece_sizes(TWENTY, 800), sizes(TWENTY, 800))

    def test_too_many(self):
        cases = [
            ([1], 401, 401), ([10000], 4000001, 401), ([5, 3], 1001, 401), ([10000, 1], 500, 500),
            ([1], GREATEST, GREATEST), ([10000], GREATEST, 10 ** 26),
            ([7, 5, 3], GREATEST, 428571428571428571428571428572),
        ]
        for widths, length, count in cases:
            with self.assertRaises(TooMany) as caught:
                piece_sizes(widths, length)
            self.assertEqual(caught.exception.count, count)

    def test_twice_is_once(self):
        for widths in EXAMPLES:
            self.assertEqual(piece_sizes(widths + widths, 70), piece_sizes(widths, 70))

    def test_result_is_new(self):
        piece_sizes([3], 4).append('more')
        self.assertEqual(piece_sizes([3], 4), [3, 1])


class CountPiecesTest(unittest.TestCase):
    """Point 11."""

    def test_example(self):
        self.assertEqual(count_pieces([7, 5, 3], 10 ** 30), 428571428571428571428571428572)

    def test_as_wrapped(self):
        for widths in small_lists():
            for length in (0, 1, 3, 6, 13, 29, 60):
                self.assertEqual(count_pieces(widths, length), len(wrapped(widths, length)), (widths, length))

    def test_edges(self):
        self.assertEqual([count_pieces([], 0), count_pieces([5, 3], 0)], [0, 0])
        self.assertEqual([count_pieces([], 1), count_pieces([], GREATEST)], [1, 1])
        self.assertEqual([count_pieces([1], 401), count_pieces([1], GREATEST)], [401, GREATEST])
        self.assertEqual(count_pieces([10000], GREATEST), 10 ** 26)
        self.assertEqual(count_pieces([10000], GREATEST - 1), 10 ** 26)
        self.assertEqual(count_pieces([9999], 9999 * 10 ** 20 + 1), 10 ** 20 + 1)
        self.assertEqual([count_pieces([10000], 10000), count_pieces([10000], 10001)], [1, 2])

    def test_twenty_widths(self):
        for widths in (TWENTY, WIDE):
            self.assertEqual(len(widths), 20)
            self.assertEqual(count_pieces(widths, 30000), len(wrapped(widths, 30000)))

    def test_great_lengths_repeat_the_first_width(self):
        for widths in GREAT_CASES:
            if widths:
                times, rest = divmod(GREATEST, widths[0])
                count = times * len(wrapped(widths, widths[0])) + len(wrapped(widths, rest))
                self.assertEqual(count_pieces(widths, GREATEST), count, widths)


class NthBreakTest(unittest.TestCase):
    """Point 11."""

    def test_example(self):
        self.assertEqual(nth_break([8, 5, 3], 4), 11)

    def test_as_wrapped(self):
        for widths in small_lists():
            if widths:
                breaks = [piece[0] for piece in wrapped(widths, 50)]
                self.assertEqual([nth_break(widths, at) for at in range(len(breaks))], breaks, widths)

    def test_without_widths(self):
        self.assertEqual(nth_break([], 0), 0)
        for index in (1, 2, GREATEST):
            self.assertRaises(InvalidIndex, nth_break, [], index)

    def test_index_0(self):
        for widths in GREAT_CASES:
            self.assertEqual(nth_break(widths, 0), 0)

    def test_beyond_the_positions(self):
        self.assertEqual(nth_break([1], GREATEST), GREATEST)
        self.assertEqual(nth_break([10000], GREATEST), 10 ** 34)
        self.assertEqual(nth_break([5, 3], GREATEST), 5 * 10 ** 30 // 2)
        self.assertEqual(nth_break([5, 3], GREATEST - 1), 5 * 10 ** 30 // 2 - 2)

    def test_great_breaks_stand_around_a_great_position(self):
        for widths in GREAT_CASES:
            if widths:
                count = count_pieces(widths, GREATEST)
                self.assertEqual(nth_break(widths, count - 1), last_break(widths, GREATEST - 1), widths)
                following = nth_break(widths, count)
                self.assertGreaterEqual(following, GREATEST)
                self.assertLessEqual(following, GREATEST + widths[0])
                self.assertEqual(is_break(widths, GREATEST), following == GREATEST)

    def test_twenty_widths(self):
        for widths in (TWENTY, WIDE):
            breaks = [piece[0] for piece in wrapped(widths, 30000)]
            for at in (0, 1, 2, 10, len(breaks) // 2, len(breaks) - 1):
                self.assertEqual(nth_break(widths, at), breaks[at])

    def test_wrong_index(self):
        for index in NOT_LENGTHS:
            self.assertRaises(InvalidIndex, nth_break, [5, 3], index)
            self.assertRaises(InvalidIndex, nth_break, [], index)


class PieceLengthsTest(unittest.TestCase):
    """Points 9 (e) and 11."""

    def test_example(self):
        self.assertEqual(piece_lengths([8, 5, 3]), [2, 3])

    def test_as_wrapped(self):
        for widths in small_lists():
            if widths:
                self.assertEqual(piece_lengths(widths), sorted(set(sizes(widths, widths[0] * 3))), widths)

    def test_as_reduced(self):
        for widths in ([7], [8, 5, 3], [9, 7, 4, 3], TWENTY, WIDE, [10000, 9999, 4321, 77, 13]):
            self.assertEqual(piece_lengths(widths), reduced_sizes(widths))
            self.assertLessEqual(len(piece_lengths(widths)), len(widths))

    def test_edges(self):
        self.assertEqual(piece_lengths([]), [])
        self.assertEqual([piece_lengths([1]), piece_lengths([10000])], [[1], [10000]])
        self.assertEqual(piece_lengths([10000, 1]), [1])
        self.assertEqual(piece_lengths([10000, 9999]), [1, 9999])
        self.assertEqual([piece_lengths([6, 3]), piece_lengths([3, 6]), piece_lengths([3, 5])], [[3]] * 3)

    def test_result_is_new(self):
        piece_lengths([]).append('more')
        self.assertEqual(piece_lengths([]), [])


class CountOfLengthTest(unittest.TestCase):
    """Point 11."""

    def test_example(self):
        self.assertEqual(count_of_length([8, 5, 3], 12, 3), 3)

    def test_last_piece_counts_with_its_own_length(self):
        self.assertEqual([count_of_length([8, 5, 3], 12, size) for size in (1, 2, 3)], [1, 1, 3])
        self.assertEqual([count_of_length([5], 12, size) for size in (2, 5)], [1, 2])

    def test_as_wrapped(self):
        for widths in small_lists():
            for length in (0, 1, 13, 37):
                found = sizes(widths, length)
                for size in range(9):
                    self.assertEqual(count_of_length(widths, length, size), found.count(size))

    def test_edges(self):
        self.assertEqual([count_of_length([], 0, 0), count_of_length([5], 0, 0)], [0, 0])
        self.assertEqual([count_of_length([], 7, 0), count_of_length([5], 5, 0)], [0, 0])
        self.assertEqual(count_of_length([], GREATEST, GREATEST), 1)
        self.assertEqual(count_of_length([], GREATEST, GREATEST - 1), 0)
        self.assertEqual(count_of_length([1], GREATEST, 1), GREATEST)
        self.assertEqual(count_of_length([10000], GREATEST, 10000), 10 ** 26)
        self.assertEqual(count_of_length([10000], GREATEST - 1, 9999), 1)
        self.assertEqual(count_of_length([7, 5, 3], GREATEST, GREATEST), 0)

    def test_great_lengths_are_used_up(self):
        for widths in GREAT_CASES[1:]:
            counts = {size: count_of_length(widths, GREATEST, size) for size in range(1, widths[0] + 1)}
            self.assertEqual(sum(counts.values()), count_pieces(widths, GREATEST), widths)
            self.assertEqual(sum(size * counts[size] for size in counts), GREATEST, widths)

    def test_wrong_size(self):
        for size in NOT_LENGTHS:
            self.assertRaises(InvalidLength, count_of_length, [5, 3], 12, size)


class WrongArgumentsTest(unittest.TestCase):
    """Points 2 and 11."""

    def test_wrong_widths(self):
        for widths in NOT_WIDTHS:
            self.assertRaises(InvalidWidths, piece_lengths, widths)
            self.assertRaises(InvalidWidths, count_of_length, widths, 0, 0)
            for function in (piece_sizes, count_pieces, nth_break):
                self.assertRaises(InvalidWidths, function, widths, 0)

    def test_wrong_length(self):
        for length in NOT_LENGTHS:
            for widths in ([], [5, 3]):
                self.assertRaises(InvalidLength, piece_sizes, widths, length)
                self.assertRaises(InvalidLength, count_pieces, widths, length)
                self.assertRaises(InvalidLength, count_of_length, widths, length, 3)

    def test_widths_are_checked_first(self):
        for second in (-1, None, True, GREATEST + 1):
            for widths in ([0], (5, 3), [True]):
                for function in (piece_sizes, count_pieces, nth_break):
                    self.assertRaises(InvalidWidths, function, widths, second)
                self.assertRaises(InvalidWidths, count_of_length, widths, second, 0)
                self.assertRaises(InvalidWidths, count_of_length, widths, 0, second)

    def test_length_is_checked_before_the_number_of_pieces(self):
        self.assertRaises(InvalidLength, piece_sizes, [1], GREATEST + 1)

    def test_wrong_length_and_wrong_size(self):
        for length, size in ((None, -1), (-1, None), (GREATEST + 1, True), (True, GREATEST + 1)):
            self.assertRaises(InvalidLength, count_of_length, [5, 3], length, size)

    def test_by_name(self):
        self.assertEqual(piece_sizes(length=12, widths=[8, 5, 3]), [3, 2, 3, 3, 1])
        self.assertEqual(count_pieces(length=12, widths=[8, 5, 3]), 5)
        self.assertEqual(nth_break(index=4, widths=[8, 5, 3]), 11)
        self.assertEqual(piece_lengths(widths=[8, 5, 3]), [2, 3])
        self.assertEqual(count_of_length(size=3, length=12, widths=[8, 5, 3]), 3)

    def test_more_widths_than_the_limit(self):
        self.assertEqual(count_pieces([5] * 21, 12), 3)
        self.assertEqual(piece_sizes([5] * 21, 12), [5, 5, 2])

    def test_arguments_are_not_changed(self):
        widths = [6, 3, 4, 2, 3]
        piece_sizes(widths, 100)
        count_pieces(widths, 100)
        nth_break(widths, 100)
        piece_lengths(widths)
        count_of_length(widths, 100, 2)
        self.assertEqual(widths, [6, 3, 4, 2, 3])
