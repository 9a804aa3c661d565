import itertools
import unittest

from hardwraps.changes import can_exchange, commute, harmless_widths, redundant
from hardwraps.errors import InvalidIndex, InvalidLength, InvalidWidths
from tests.support import (
    EXAMPLES, GREATEST, NOT_INTEGERS, NOT_WIDTHS, TWENTY, WIDE, WIDE_LISTS, computed_columns, random_lists,
    small_lists,
)


def same(one, other):
    """Return whether two lists are equal in effect, by columns up to the sum of their periods."""
    length = sum(one[:1]) + sum(other[:1]) + 1
    return computed_columns(one, length) == computed_columns(other, length)


def without(widths, index):
    return widths[:index] + widths[index + 1:]


class RedundantTest(unittest.TestCase):
    """Point 14."""

    def test_example(self):
        self.assertEqual(redundant([10, 8, 5, 3]), [1])

    def test_by_definition(self):
        for widths in small_lists() + random_lists(8, 60, 40, 8):
            expected = [at for at in range(len(widths)) if same(without(widths, at), widths)]
            self.assertEqual(redundant(widths), expected, widths)

    def test_each_one_alone(self):
        # Either of the two fives can be left out, but not both of them.
        self.assertEqual(redundant([5, 5]), [0, 1])
        self.assertEqual(redundant([4, 4, 4]), [0, 1, 2])
        self.assertEqual(redundant([6, 3, 4]), [0, 2])

    def test_edges(self):
        self.assertEqual(redundant([]), [])
        self.assertEqual([redundant([1]), redundant([10000])], [[], []])
        self.assertEqual([redundant([10000, 1]), redundant([1, 10000])], [[0], [1]])
        self.assertEqual([redundant([10000, 5000]), redundant([10000, 9999])], [[0], []])
        self.assertEqual(redundant([5] * 20), list(range(20)))
        self.assertEqual(redundant(list(range(1, 21))), list(range(1, 20)))
        self.assertEqual(redundant(TWENTY), [])
        self.assertEqual(redundant([10000] + [9999] * 18 + [10000]), list(range(1, 20)))

    def test_wide_lists(self):
        for widths in WIDE_LISTS[:8]:
            expected = [at for at in range(len(widths)) if same(without(widths, at), widths)]
            self.assertEqual(redundant(widths), expected, widths)

    def test_result_is_new(self):
        redundant([5, 5]).append('more')
        self.assertEqual(redundant([5, 5]), [0, 1])


class CanExchangeTest(unittest.TestCase):
    """Point 14."""

    def test_example(self):
        self.assertEqual([can_exchange([6, 3], 0), can_exchange([6, 4], 0)], [True, False])

    def test_by_definition(self):
        for widths in small_lists() + random_lists(9, 60, 40, 8):
            for index in range(len(widths) - 1):
                exchanged = list(widths)
                exchanged[index], exchanged[index + 1] = exchanged[index + 1], exchanged[index]
                self.assertIs(can_exchange(widths, index), same(exchanged, widths), (widths, index))

    def test_edges(self):
        self.assertEqual([can_exchange([5] * 20, at) for at in range(19)], [True] * 19)
        self.assertEqual([can_exchange(TWENTY, at) for at in range(19)], [False] * 19)
        self.assertEqual([can_exchange([10000, 1], 0), can_exchange([1, 10000], 0)], [True, True])
        self.assertEqual([can_exchange([10000, 5000], 0), can_exchange([10000, 9999], 0)], [True, False])
        # The ones that are exchanged come behind a smaller one.
        self.assertEqual([can_exchange([3, 10000, 9999], at) for at in (0, 1)], [False, True])

    def test_wrong_index(self):
        for widths, index in (([6, 3], 1), ([6, 3], -1), ([6, 3], 2), ([6, 3, 2], 2), ([5] * 20, 19)):
            self.assertRaises(InvalidIndex, can_exchange, widths, index)
        for index in NOT_INTEGERS + [GREATEST, -GREATEST, -1]:
            self.assertRaises(InvalidIndex, can_exchange, [6, 3], index)

    def test_fewer_than_two_widths_have_no_index(self):
        for widths in ([], [5]):
            for index in (-2, -1, 0, 1):
                self.assertRaises(InvalidIndex, can_exchange, widths, index)


class HarmlessWidthsTest(unittest.TestCase):
    """Point 14."""

    def test_example(self):
        self.assertEqual(harmless_widths([5, 3], 0, 12), [5, 10])

    def test_by_definition(self):
        for widths in small_lists()[::3] + random_lists(10, 20, 30, 5):
            for index in range(len(widths) + 1):
                expected = [
                    width for width in range(1, 25)
                    if same(widths[:index] + [width] + widths[index:], widths)
                ]
                self.assertEqual(harmless_widths(widths, index, 24), expected, (widths, index))

    def test_limits(self):
        everything = harmless_widths([5, 3], 1, 100)
        self.assertEqual(everything, [3] + list(range(5, 101)))
        for limit in (0, 1, 2, 3, 4, 5, 6, 99, 100):
            expected = [width for width in everything if width <= limit]
            self.assertEqual(harmless_widths([5, 3], 1, limit), expected)
        self.assertEqual(harmless_widths([5, 3], 0, 100), list(range(5, 101, 5)))
        self.assertEqual(harmless_widths([5, 3], 2, 100), list(range(3, 101)))
        self.assertEqual(harmless_widths([1], 0, 100), list(range(1, 101)))
        self.assertEqual(harmless_widths([100], 0, 100), [100])
        self.assertEqual(harmless_widths([100], 1, 99), [])

    def test_without_widths(self):
        for limit in (0, 1, 100):
            self.assertEqual(harmless_widths([], 0, limit), [])

    def test_both_ends(self):
        self.assertEqual([harmless_widths([8, 5, 3], at, 17) for at in (0, 3)], [[8, 16], list(range(3, 18))])
        self.assertEqual(harmless_widths([5] * 20, 20, 6), [5, 6])
        self.assertEqual(harmless_widths([5] * 20, 0, 11), [5, 10])

    def test_wide_lists(self):
        self.assertEqual(harmless_widths([10000, 1] + [9999] * 18, 1, 100), list(range(1, 101)))
        self.assertEqual(harmless_widths([10000], 0, 100), [])
        self.assertEqual(harmless_widths(WIDE, 20, 100), [])
        self.assertEqual(harmless_widths(TWENTY, 0, 100), [40, 80])

    def test_wrong_index(self):
        for widths, index in (([5, 3], 3), ([5, 3], -1), ([], 1), ([], -1), ([5] * 20, 21)):
            self.assertRaises(InvalidIndex, harmless_widths, widths, index, 12)
        for index in NOT_INTEGERS + [GREATEST, -GREATEST]:
            self.assertRaises(InvalidIndex, harmless_widths, [5, 3], index, 12)

    def test_wrong_limit(self):
        for limit in NOT_INTEGERS + [-1, 101, GREATEST, -GREATEST]:
            for widths in ([], [5, 3]):
                self.assertRaises(InvalidLength, harmless_widths, widths, 0, limit)

    def test_result_is_new(self):
        harmless_widths([5, 3], 0, 12).append('more')
        self.assertEqual(harmless_widths([5, 3], 0, 12), [5, 10])


class CommuteTest(unittest.TestCase):
    """Point 14."""

    def test_example(self):
        self.assertEqual([commute([6], [3]), commute([6], [4]), commute([], [5, 3])], [True, False, True])

    def test_by_definition(self):
        lists = [list(widths) for many in range(3) for widths in itertools.product(range(1, 9), repeat=many)]
        for first in lists[::2] + EXAMPLES[10:]:
            for second in lists[::3] + EXAMPLES[10:]:
                expected = same(first + second, second + first)
                self.assertIs(commute(first, second), expected, (first, second))

    def test_edges(self):
        self.assertIs(commute([], []), True)
        for widths in EXAMPLES + WIDE_LISTS:
            self.assertIs(commute([], widths), True)
            self.assertIs(commute(widths, []), True)
            self.assertIs(commute(widths, widths), True)
            self.assertIs(commute(widths, [1]), True)
            self.assertIs(commute([1], widths), True)
        self.assertEqual([commute([10000], [5000]), commute([10000], [9999])], [True, False])
        self.assertEqual([commute(WIDE, [10000]), commute(WIDE, [9483])], [True, False])


class WrongArgumentsTest(unittest.TestCase):
    """Points 2, 3 and 14."""

    def test_wrong_widths(self):
        for widths in NOT_WIDTHS:
            self.assertRaises(InvalidWidths, redundant, widths)
            self.assertRaises(InvalidWidths, can_exchange, widths, 0)
            self.assertRaises(InvalidWidths, harmless_widths, widths, 0, 12)
            self.assertRaises(InvalidWidths, commute, widths, [5])
            self.assertRaises(InvalidWidths, commute, [5], widths)
            self.assertRaises(InvalidWidths, commute, widths, [])
            self.assertRaises(InvalidWidths, commute, [], widths)
            self.assertRaises(InvalidWidths, commute, widths, widths)

    def test_widths_are_checked_first(self):
        for widths in ([0], (5, 3), [True], None):
            for second in (-1, None, True, GREATEST):
                self.assertRaises(InvalidWidths, can_exchange, widths, second)
                self.assertRaises(InvalidWidths, harmless_widths, widths, second, 12)
                self.assertRaises(InvalidWidths, harmless_widths, widths, second, second)

    def test_index_is_checked_before_the_limit(self):
        for index, limit in ((None, -1), (3, 101), (True, None), (-1, True)):
            self.assertRaises(InvalidIndex, harmless_widths, [5, 3], index, limit)

    def test_by_name(self):
        self.assertEqual(redundant(widths=[10, 8, 5, 3]), [1])
        self.assertIs(can_exchange(index=0, widths=[6, 3]), True)
        self.assertEqual(harmless_widths(limit=12, index=0, widths=[5, 3]), [5, 10])
        self.assertIs(commute(second=[3], first=[6]), True)

    def test_more_widths_than_the_limit(self):
        self.assertEqual(redundant([5] * 21), list(range(21)))
        self.assertIs(commute([5] * 21, [5] * 21), True)

    def test_arguments_are_not_changed(self):
        widths = [6, 3, 4, 2, 3]
        other = [7, 7, 9]
        redundant(widths)
        can_exchange(widths, 1)
        harmless_widths(widths, 2, 20)
        commute(widths, other)
        self.assertEqual([widths, other], [[6, 3, 4, 2, 3], [7, 7, 9]])

    def test_a_changed_argument_is_read_again(self):
        widths = [5, 3]
        self.assertEqual([redundant(widths), harmless_widths(widths, 0, 12)], [[], [5, 10]])
        widths.insert(0, 10)
        self.assertEqual([redundant(widths), harmless_widths(widths, 0, 12)], [[0], [5, 10]])
        widths[2] = 4
        self.assertEqual([redundant(widths), can_exchange(widths, 0)], [[0], True])
        del widths[0]
        self.assertEqual([redundant(widths), can_exchange(widths, 0)], [[], False])
