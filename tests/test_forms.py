import itertools
import unittest
from math import gcd

from hardwraps.errors import InvalidLength, InvalidWidths
from hardwraps.forms import are_equal, are_equal_to, descent, first_difference, normal_form
from hardwraps.periods import least_period, least_period_to
from tests.support import (
    EXAMPLES, GREATEST, NOT_INTEGERS, NOT_WIDTHS, TWENTY, WIDE, WIDE_LISTS, computed_columns, descent_by_rule,
    random_lists, small_lists,
)

NOT_LENGTHS = NOT_INTEGERS + [-1, -GREATEST, GREATEST + 1, 10 ** 39]
NOT_POSITIVE = NOT_LENGTHS + [0]


def difference(one, other):
    """Return the least index at which two lists of columns differ, or None."""
    for at, pair in enumerate(zip(one, other)):
        if pair[0] != pair[1]:
            return at
    return None


class NormalFormTest(unittest.TestCase):
    """Points 9 (b) and 13."""

    def test_example(self):
        self.assertEqual([normal_form([10, 8, 5, 3]), normal_form([6, 3, 4])], [[5, 3], [3]])

    def test_by_rule(self):
        for widths in small_lists() + random_lists(4, 20, 60, 20):
            if widths:
                period = least_period(widths)
                expected = [period] + descent_by_rule(computed_columns(widths, period))
                self.assertEqual(normal_form(widths), expected, widths)

    def test_has_the_same_effect(self):
        for widths in EXAMPLES[1:] + WIDE_LISTS + random_lists(5, 10, 10000, 20):
            form = normal_form(widths)
            length = 2 * widths[0]
            self.assertEqual(computed_columns(form, length), computed_columns(widths, length), widths)
            self.assertEqual(normal_form(form), form)

    def test_no_list_with_fewer_widths_has_the_same_effect(self):
        shortest = {}
        for many in range(4):
            for widths in itertools.product(range(1, 9), repeat=many):
                shortest.setdefault(tuple(computed_columns(widths, 24)), many)
        for many in range(1, 4):
            for widths in itertools.product(range(1, 9), repeat=many):
                form = normal_form(list(widths))
                self.assertEqual(len(form), shortest[tuple(computed_columns(widths, 24))], widths)

    def test_edges(self):
        self.assertEqual(normal_form([]), [])
        self.assertEqual([normal_form([1]), normal_form([10000])], [[1], [10000]])
        self.assertEqual([normal_form([10000, 1]), normal_form([1, 10000])], [[1], [1]])
        self.assertEqual([normal_form([5] * 20), normal_form(TWENTY)], [[5], TWENTY])
        self.assertEqual(normal_form([10000, 9999]), [10000, 9999])

    def test_result_is_new(self):
        for widths in ([], [5, 3]):
            result = normal_form(widths)
            self.assertIsNot(result, widths)
            result.append('more')
            self.assertEqual(normal_form(widths), widths)


class EqualTest(unittest.TestCase):
    """Points 6, 9 (b), (c) and 13: are_equal and first_difference."""

    def test_examples(self):
        self.assertEqual([are_equal([10, 8, 5, 3], [5, 3]), are_equal([8, 5, 3], [5, 3])], [True, False])
        self.assertEqual([first_difference([8, 5, 3], [5, 3]), first_difference([7], [])], [10, 7])

    def test_by_definition(self):
        lists = small_lists()[::3]
        columns = [computed_columns(widths, 130) for widths in lists]
        for one, left in zip(lists, columns):
            for other, right in zip(lists, columns):
                expected = difference(left, right)
                self.assertEqual(first_difference(one, other), expected, (one, other))
                self.assertIs(are_equal(one, other), expected is None, (one, other))

    def test_equal_if_and_only_if_the_normal_forms_are(self):
        for one in small_lists()[::4]:
            for other in small_lists()[::5]:
                self.assertIs(are_equal(one, other), normal_form(one) == normal_form(other), (one, other))

    def test_without_widths(self):
        self.assertIs(are_equal([], []), True)
        self.assertIsNone(first_difference([], []))
        for widths in EXAMPLES[1:] + WIDE_LISTS:
            self.assertIs(are_equal(widths, []), False)
            self.assertIs(are_equal([], widths), False)
            self.assertEqual(first_difference(widths, []), min(widths))
            self.assertEqual(first_difference([], widths), min(widths))

    def test_the_same_list(self):
        for widths in EXAMPLES + WIDE_LISTS:
            self.assertIsNone(first_difference(widths, widths))
            self.assertIs(are_equal(widths, widths + widths), True)

    def test_late_differences(self):
        # As late as point 9 (c) lets them be: before p + q - gcd(p, q).
        self.assertEqual(first_difference([8, 5, 3], [5, 3]), 8 + 5 - 3)
        self.assertEqual(first_difference([13, 8, 5, 3], [8, 5, 3]), 18)
        self.assertEqual(first_difference([10000], [9999]), 9999)
        self.assertEqual(first_difference([10000, 9999], [9999]), 10000)
        self.assertEqual(first_difference([6765, 4181, 2584, 1597, 987], [4181, 2584, 1597, 987]), 6765 + 4181 - 987)
        for one in EXAMPLES[1:] + WIDE_LISTS:
            for other in EXAMPLES[1:] + WIDE_LISTS:
                position = first_difference(one, other)
                if position is not None:
                    p, q = least_period(one), least_period(other)
                    self.assertLess(position, p + q - gcd(p, q), (one, other))

    def test_wide_lists(self):
        lists = WIDE_LISTS + random_lists(6, 6, 10000, 20) + [[9998, 9001], [9999, 9001]]
        columns = [computed_columns(widths, 20000) for widths in lists]
        for one, left in zip(lists, columns):
            for other, right in zip(lists, columns):
                self.assertEqual(first_difference(one, other), difference(left, right), (one, other))


class DescentTest(unittest.TestCase):
    """Points 8, 9 (b) and 13."""

    def test_example(self):
        self.assertEqual([descent([18, 8, 5, 3], 20), descent([8, 5, 3], 3)], [[13, 8, 5, 3], []])

    def test_by_rule(self):
        for widths in small_lists():
            columns = computed_columns(widths, 40)
            for length in (1, 2, 3, 4, 5, 8, 13, 24, 40):
                self.assertEqual(descent(widths, length), descent_by_rule(columns[:length]), (widths, length))

    def test_begins_with_the_least_period(self):
        for widths in EXAMPLES + WIDE_LISTS:
            for length in (1, 10, 20, 10000, 10001, 20000, GREATEST):
                found = descent(widths, length)
                entries = [length]
                while least_period_to(widths, entries[-1]) < entries[-1]:
                    entries.append(least_period_to(widths, entries[-1]))
                self.assertEqual(found, entries[1:])

    def test_length_1(self):
        for widths in EXAMPLES + WIDE_LISTS:
            self.assertEqual(descent(widths, 1), [])

    def test_without_widths(self):
        for length in (1, 2, 10000, GREATEST):
            self.assertEqual(descent([], length), [])

    def test_great_lengths(self):
        for widths in EXAMPLES[1:] + WIDE_LISTS:
            self.assertEqual(descent(widths, GREATEST), normal_form(widths))
        self.assertEqual([descent([10000], 10000), descent([10000], 10001)], [[], [10000]])
        self.assertEqual([descent([1], 2), descent([1], GREATEST)], [[1], [1]])

    def test_has_the_same_effect_up_to_the_length(self):
        for widths in EXAMPLES[1:] + WIDE_LISTS + random_lists(7, 10, 10000, 20):
            for length in (3, 25, 4000, 12345):
                found = descent(widths, length)
                self.assertEqual(computed_columns(found, length), computed_columns(widths, length))

    def test_no_list_with_fewer_widths_has_the_same_effect(self):
        for length in (5, 9, 12):
            shortest = {}
            for many in range(4):
                for widths in itertools.product(range(1, length), repeat=many):
                    columns = tuple(computed_columns(widths, length))
                    shortest.setdefault(columns, many)
            for columns, many in shortest.items():
                self.assertEqual(len(descent_by_rule(columns)), many)
            for widths in small_lists():
                columns = tuple(computed_columns(widths, length))
                if columns in shortest:
                    self.assertEqual(len(descent(widths, length)), shortest[columns], (widths, length))

    def test_wrong_length(self):
        for length in NOT_POSITIVE:
            for widths in ([], [5, 3]):
                self.assertRaises(InvalidLength, descent, widths, length)

    def test_result_is_new(self):
        for widths in ([], [5, 3]):
            result = descent(widths, 9)
            self.assertIsNot(result, widths)
            result.append('more')
            self.assertEqual(descent(widths, 9), widths)


class EqualToTest(unittest.TestCase):
    """Points 6, 9 (b) and 13."""

    def test_example(self):
        self.assertEqual([are_equal_to([8, 5, 3], [5, 3], 10), are_equal_to([8, 5, 3], [5, 3], 11)], [True, False])

    def test_by_definition(self):
        lists = small_lists()[::4]
        columns = [computed_columns(widths, 30) for widths in lists]
        for one, left in zip(lists, columns):
            for other, right in zip(lists, columns):
                for length in (0, 1, 2, 3, 5, 6, 11, 30):
                    expected = left[:length] == right[:length]
                    self.assertIs(are_equal_to(one, other, length), expected, (one, other, length))

    def test_equal_if_and_only_if_the_descents_are(self):
        for one in EXAMPLES:
            for other in EXAMPLES:
                for length in (1, 2, 5, 13, 40, GREATEST):
                    expected = descent(one, length) == descent(other, length)
                    self.assertIs(are_equal_to(one, other, length), expected, (one, other, length))

    def test_length_0(self):
        for one in EXAMPLES:
            for other in EXAMPLES:
                self.assertIs(are_equal_to(one, other, 0), True)
                self.assertIs(are_equal_to(one, other, 1), True)

    def test_without_widths(self):
        self.assertIs(are_equal_to([], [], GREATEST), True)
        self.assertEqual([are_equal_to([7], [], 7), are_equal_to([7], [], 8)], [True, False])
        self.assertEqual([are_equal_to([], [7, 3], 3), are_equal_to([], [7, 3], 4)], [True, False])

    def test_great_lengths(self):
        self.assertIs(are_equal_to([10, 8, 5, 3], [5, 3], GREATEST), True)
        self.assertIs(are_equal_to([8, 5, 3], [5, 3], GREATEST), False)
        self.assertIs(are_equal_to([10000, 9999], [9999], 10000), True)
        self.assertIs(are_equal_to([10000, 9999], [9999], 10001), False)
        self.assertIs(are_equal_to(WIDE, WIDE + TWENTY, 10000), False)
        self.assertIs(are_equal_to(WIDE, WIDE + [10000], GREATEST), True)

    def test_wrong_length(self):
        for length in NOT_LENGTHS:
            for widths in ([], [5, 3]):
                self.assertRaises(InvalidLength, are_equal_to, widths, widths, length)
                self.assertRaises(InvalidLength, are_equal_to, widths, [8], length)


class WrongArgumentsTest(unittest.TestCase):
    """Points 2, 3 and 13."""

    def test_wrong_widths(self):
        for widths in NOT_WIDTHS:
            self.assertRaises(InvalidWidths, normal_form, widths)
            self.assertRaises(InvalidWidths, descent, widths, 1)
            for function in (are_equal, first_difference):
                self.assertRaises(InvalidWidths, function, widths, [5])
                self.assertRaises(InvalidWidths, function, [5], widths)
                self.assertRaises(InvalidWidths, function, widths, widths)
                self.assertRaises(InvalidWidths, function, [], widths)
            for length in (0, 1, -1, None, True):
                self.assertRaises(InvalidWidths, are_equal_to, widths, [5], length)
                self.assertRaises(InvalidWidths, are_equal_to, [5], widths, length)

    def test_widths_are_checked_first(self):
        for widths in ([0], (5, 3), [True], None):
            for length in (0, -1, None, True, GREATEST + 1):
                self.assertRaises(InvalidWidths, descent, widths, length)

    def test_by_name(self):
        self.assertEqual(normal_form(widths=[6, 3, 4]), [3])
        self.assertIs(are_equal(other=[5, 3], widths=[10, 8, 5, 3]), True)
        self.assertEqual(first_difference(other=[5, 3], widths=[8, 5, 3]), 10)
        self.assertEqual(descent(length=20, widths=[18, 8, 5, 3]), [13, 8, 5, 3])
        self.assertIs(are_equal_to(length=11, other=[5, 3], widths=[8, 5, 3]), False)

    def test_more_widths_than_the_limit(self):
        self.assertEqual(normal_form([10, 8, 5, 3] * 10), [5, 3])
        self.assertIs(are_equal([10, 8, 5, 3] * 10, [5, 3]), True)

    def test_arguments_are_not_changed(self):
        widths = [6, 3, 4, 2, 3]
        other = [7, 7, 9]
        normal_form(widths)
        are_equal(widths, other)
        first_difference(widths, other)
        descent(widths, 100)
        are_equal_to(widths, other, 100)
        self.assertEqual([widths, other], [[6, 3, 4, 2, 3], [7, 7, 9]])

    def test_a_changed_argument_is_read_again(self):
        widths = [8, 5, 3]
        self.assertEqual([are_equal(widths, [5, 3]), normal_form(widths)], [False, [8, 5, 3]])
        widths.insert(0, 10)
        self.assertEqual([are_equal(widths, [5, 3]), normal_form(widths)], [True, [5, 3]])
        del widths[0]
        self.assertEqual([are_equal(widths, [5, 3]), normal_form(widths)], [False, [8, 5, 3]])
