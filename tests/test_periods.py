import unittest

from hardwraps.errors import InvalidLength, InvalidPeriod, InvalidPosition, InvalidWidths
from hardwraps.periods import has_period, least_period, least_period_to, overlap
from tests.support import (
    EXAMPLES, GREATEST, NOT_INTEGERS, NOT_WIDTHS, TWENTY, WIDE, WIDE_LISTS, computed_columns, period_of,
    random_lists, small_lists,
)

NOT_POSITIONS = NOT_INTEGERS + [-1, -GREATEST, GREATEST + 1, 10 ** 39]
NOT_POSITIVE = NOT_POSITIONS + [0]


def slow_overlap(columns, shift, width):
    """Return the overlap for columns of more than shift + 2 * width positions."""
    for at in range(2 * width):
        if columns[shift + at] != columns[at]:
            return at
    return None


def forever(widths):
    """Return the least period of all positions, sought among the divisors of the first width."""
    width = widths[0]
    columns = computed_columns(widths, 2 * width)
    for period in range(1, width + 1):
        if all(columns[at] == columns[at + period] for at in range(width)):
            return period


class OverlapTest(unittest.TestCase):
    """Point 12."""

    def test_example(self):
        self.assertEqual([overlap([8, 5, 3], 5), overlap([8, 5, 3], 16)], [5, None])

    def test_by_definition(self):
        for widths in small_lists():
            if widths:
                columns = computed_columns(widths, 40 + 2 * widths[0])
                for shift in range(40):
                    expected = slow_overlap(columns, shift, widths[0])
                    self.assertEqual(overlap(widths, shift), expected, (widths, shift))

    def test_shift_0(self):
        for widths in EXAMPLES + WIDE_LISTS:
            self.assertIsNone(overlap(widths, 0))

    def test_without_widths(self):
        self.assertIsNone(overlap([], 0))
        for shift in (1, 2, 10000, GREATEST):
            self.assertEqual(overlap([], shift), 0)
            self.assertIs(type(overlap([], shift)), int)

    def test_multiples_of_the_least_period(self):
        for widths in EXAMPLES[1:] + WIDE_LISTS:
            period = least_period(widths)
            for times in (1, 2, 3, 10 ** 20, GREATEST // period):
                self.assertIsNone(overlap(widths, times * period), (widths, times))
                if period > 1:
                    self.assertIsNotNone(overlap(widths, times * period - 1), (widths, times))

    def test_no_break_has_no_overlap(self):
        self.assertEqual([overlap([8, 5, 3], shift) for shift in (1, 2, 4, 6, 7)], [0] * 5)

    def test_wide_lists(self):
        for widths in WIDE_LISTS + random_lists(1, 10, 10000, 20):
            width = widths[0]
            columns = computed_columns(widths, 5 * width)
            for shift in (1, width // 3, width // 2, min(widths), width - min(widths), width - 1, width):
                expected = slow_overlap(columns, shift, width)
                self.assertEqual(overlap(widths, shift), expected, (widths, shift))

    def test_great_shifts(self):
        self.assertIsNone(overlap([10000], GREATEST))
        self.assertEqual(overlap([10000], GREATEST - 1), 0)
        self.assertIsNone(overlap([1], GREATEST))
        self.assertIsNone(overlap([1], GREATEST - 1))
        self.assertEqual(overlap([7, 5, 3], GREATEST), overlap([7, 5, 3], GREATEST % 7))
        # From 10 ** 30 on, all compared positions are beyond the greatest position.
        self.assertEqual(overlap([10000, 9999], GREATEST - 1), 1)
        self.assertEqual(overlap([9999, 9998, 100], GREATEST), overlap([9999, 9998, 100], 100))
        self.assertEqual(overlap([9999, 9998, 100], GREATEST), 9898)

    def test_wrong_shift(self):
        for shift in NOT_POSITIONS:
            for widths in ([], [5, 3]):
                self.assertRaises(InvalidPosition, overlap, widths, shift)


class LeastPeriodTest(unittest.TestCase):
    """Points 7 and 12."""

    def test_example(self):
        self.assertEqual([least_period([10, 8, 5, 3]), least_period([8, 5, 3])], [5, 8])

    def test_without_widths(self):
        self.assertIsNone(least_period([]))

    def test_by_definition(self):
        for widths in small_lists() + WIDE_LISTS + random_lists(2, 10, 10000, 20):
            if widths:
                self.assertEqual(least_period(widths), forever(widths), widths)

    def test_a_period_up_to_a_length_is_not_enough(self):
        # 5 is a period up to 10 here, and 13 is one up to 23.
        self.assertEqual(least_period([8, 5, 3]), 8)
        self.assertEqual(least_period([18, 8, 5, 3]), 18)

    def test_edges(self):
        self.assertEqual([least_period([1]), least_period([10000])], [1, 10000])
        self.assertEqual([least_period([10000, 1]), least_period([10000, 5000])], [1, 5000])
        self.assertEqual([least_period([10000, 9999]), least_period([9999, 10000])], [10000, 9999])
        self.assertEqual([least_period([5] * 20), least_period(TWENTY), least_period(WIDE)], [5, 40, 10000])


class HasPeriodTest(unittest.TestCase):
    """Points 7 and 12."""

    def test_example(self):
        self.assertEqual([has_period([18, 8, 5, 3], 20, 13), has_period([18, 8, 5, 3], 24, 13)], [True, False])

    def test_by_definition(self):
        for widths in small_lists():
            columns = computed_columns(widths, 44)
            for length in (0, 1, 2, 5, 9, 17, 44):
                for period in range(1, 46):
                    expected = columns[period:length] == columns[:max(0, length - period)]
                    self.assertIs(has_period(widths, length, period), expected, (widths, length, period))

    def test_not_less_than_the_length(self):
        for widths in EXAMPLES:
            for length in (0, 1, 7, 10000, GREATEST):
                for period in (max(1, length), length + 1, GREATEST):
                    if period <= GREATEST:
                        self.assertIs(has_period(widths, length, period), True)

    def test_without_widths(self):
        for length in (2, 7, GREATEST):
            self.assertIs(has_period([], length, length), True)
            self.assertIs(has_period([], length, length - 1), False)
            self.assertIs(has_period([], length, 1), False)

    def test_where_it_ends(self):
        # The positions 10 and 10 + 13 are the first ones that differ.
        self.assertIs(has_period([18, 8, 5, 3], 23, 13), True)
        self.assertIs(has_period([18, 8, 5, 3], GREATEST, 13), False)

    def test_great_numbers(self):
        self.assertIs(has_period([10000], GREATEST, 10000), True)
        self.assertIs(has_period([10000], GREATEST, 9999), False)
        self.assertIs(has_period([10000], GREATEST, GREATEST - 10000), True)
        self.assertIs(has_period([10000], GREATEST, GREATEST - 9999), False)
        self.assertIs(has_period([10000], GREATEST, GREATEST - 1), False)
        self.assertIs(has_period([10000, 9999], GREATEST, GREATEST - 1), True)
        self.assertIs(has_period([10000, 9999], GREATEST, GREATEST - 2), False)
        self.assertIs(has_period([1], GREATEST, 1), True)
        self.assertIs(has_period([7, 5, 3], GREATEST, 7 * 10 ** 29), True)
        for widths in WIDE_LISTS:
            self.assertIs(has_period(widths, GREATEST, least_period(widths)), True)

    def test_wrong_length(self):
        for length in NOT_POSITIONS:
            for widths in ([], [5, 3]):
                self.assertRaises(InvalidLength, has_period, widths, length, 5)

    def test_wrong_period(self):
        for period in NOT_POSITIVE:
            for widths in ([], [5, 3]):
                self.assertRaises(InvalidPeriod, has_period, widths, 10, period)
                self.assertRaises(InvalidPeriod, has_period, widths, 0, period)


class LeastPeriodToTest(unittest.TestCase):
    """Points 7 and 12."""

    def test_example(self):
        self.assertEqual([least_period_to([18, 8, 5, 3], 20), least_period_to([8, 5, 3], 3)], [13, 3])

    def test_by_definition(self):
        for widths in small_lists():
            columns = computed_columns(widths, 45)
            for length in range(1, 46):
                self.assertEqual(least_period_to(widths, length), period_of(columns[:length]), (widths, length))

    def test_length_1(self):
        for widths in EXAMPLES + WIDE_LISTS:
            self.assertEqual(least_period_to(widths, 1), 1)

    def test_without_widths(self):
        for length in (1, 2, 10000, GREATEST):
            self.assertEqual(least_period_to([], length), length)

    def test_wide_lists(self):
        for widths in WIDE_LISTS + random_lists(3, 8, 10000, 20):
            columns = computed_columns(widths, 3 * widths[0])
            for length in {1, min(widths), min(widths) + 1, widths[0] // 2 + 1, widths[0], widths[0] + 1,
                           widths[0] + min(widths), 2 * widths[0] - 1, 2 * widths[0], 3 * widths[0]}:
                self.assertEqual(least_period_to(widths, length), period_of(columns[:length]), (widths, length))

    def test_great_lengths(self):
        for widths in EXAMPLES[1:] + WIDE_LISTS:
            self.assertEqual(least_period_to(widths, GREATEST), least_period(widths))
            self.assertEqual(least_period_to(widths, 10 ** 15), least_period(widths))
        self.assertEqual(least_period_to([10000], 10000), 10000)
        self.assertEqual(least_period_to([10000], 9999), 9999)

    def test_is_the_least_with_has_period(self):
        for widths in EXAMPLES:
            for length in (1, 4, 11, 23, 24, 60):
                period = least_period_to(widths, length)
                found = [has_period(widths, length, other) for other in range(1, period + 1)]
                self.assertEqual(found, [False] * (period - 1) + [True])

    def test_wrong_length(self):
        for length in NOT_POSITIVE:
            for widths in ([], [5, 3]):
                self.assertRaises(InvalidLength, least_period_to, widths, length)


class WrongArgumentsTest(unittest.TestCase):
    """Points 2, 3 and 12."""

    def test_wrong_widths(self):
        for widths in NOT_WIDTHS:
            self.assertRaises(InvalidWidths, overlap, widths, 0)
            self.assertRaises(InvalidWidths, least_period, widths)
            self.assertRaises(InvalidWidths, has_period, widths, 1, 1)
            self.assertRaises(InvalidWidths, least_period_to, widths, 1)

    def test_widths_are_checked_first(self):
        for widths in ([0], (5, 3), [True], None):
            for second in (-1, None, True, GREATEST + 1):
                self.assertRaises(InvalidWidths, overlap, widths, second)
                self.assertRaises(InvalidWidths, least_period_to, widths, second)
                self.assertRaises(InvalidWidths, has_period, widths, second, second)

    def test_length_is_checked_before_the_period(self):
        for length, period in ((None, 0), (-1, None), (True, GREATEST + 1), (GREATEST + 1, True)):
            self.assertRaises(InvalidLength, has_period, [5, 3], length, period)
            self.assertRaises(InvalidLength, has_period, [], length, period)

    def test_by_name(self):
        self.assertEqual(overlap(shift=5, widths=[8, 5, 3]), 5)
        self.assertEqual(least_period(widths=[8, 5, 3]), 8)
        self.assertIs(has_period(period=13, length=20, widths=[18, 8, 5, 3]), True)
        self.assertEqual(least_period_to(length=20, widths=[18, 8, 5, 3]), 13)

    def test_more_widths_than_the_limit(self):
        self.assertEqual([least_period([6] * 30 + [5]), overlap([6] * 30 + [5], 5)], [6, 1])

    def test_arguments_are_not_changed(self):
        widths = [6, 3, 4, 2, 3]
        overlap(widths, 100)
        least_period(widths)
        has_period(widths, 100, 3)
        least_period_to(widths, 100)
        self.assertEqual(widths, [6, 3, 4, 2, 3])

    def test_a_changed_argument_is_read_again(self):
        widths = [8, 5, 3]
        self.assertEqual(least_period(widths), 8)
        widths.insert(0, 10)
        self.assertEqual([least_period(widths), overlap(widths, 8)], [5, 2])
        del widths[0]
        self.assertEqual([least_period(widths), overlap(widths, 8)], [8, None])
