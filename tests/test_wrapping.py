import unittest

from hardwraps.errors import InvalidLength, InvalidPosition, InvalidWidths
from hardwraps.wrapping import column, columns, effective, is_break, is_widths, last_break
from tests.support import EXAMPLES, GREATEST, NOT_INTEGERS, NOT_WIDTHS, small_lists, wrapped, wrapped_columns

NOT_POSITIONS = NOT_INTEGERS + [-1, -GREATEST, GREATEST + 1, 10 ** 39]
TWENTY = list(range(40, 20, -1))


class IsWidthsTest(unittest.TestCase):
    """Points 4 and 10."""

    def test_example(self):
        self.assertIs(is_widths([10, 8, 0]), False)

    def test_lists_of_widths(self):
        for value in EXAMPLES + [[], [1], [10000], [1, 10000, 1], [5] * 20]:
            self.assertIs(is_widths(value), True, value)

    def test_limits_of_arguments_are_not_checked(self):
        self.assertIs(is_widths([5] * 21), True)
        self.assertIs(is_widths([5] * 1000), True)

    def test_any_other_value(self):
        for value in NOT_WIDTHS:
            self.assertIs(is_widths(value), False, value)

    def test_deeply_nested_value(self):
        value = []
        for _ in range(39):
            value = [value]
        self.assertIs(is_widths(value), False)

    def test_by_name(self):
        self.assertIs(is_widths(value=[5]), True)


class ColumnTest(unittest.TestCase):
    """Points 5, 9 (a), (f) and 10."""

    def test_example(self):
        self.assertEqual([column([10, 8, 5, 3], 9), column([], 9)], [1, 9])

    def test_as_wrapped(self):
        for widths in small_lists():
            found = [column(widths, position) for position in range(45)]
            self.assertEqual(found, wrapped_columns(widths, 45), widths)

    def test_without_widths(self):
        for position in (0, 1, 10000, GREATEST):
            self.assertEqual(column([], position), position)

    def test_position_0(self):
        for widths in EXAMPLES + [[1], [10000]]:
            self.assertEqual(column(widths, 0), 0)

    def test_great_positions(self):
        self.assertEqual(column([10000], GREATEST), 0)
        self.assertEqual(column([10000], GREATEST - 1), 9999)
        self.assertEqual(column([9999], GREATEST), 100)
        self.assertEqual(column([9999, 70], GREATEST), 30)
        self.assertEqual(column([7, 5, 3], GREATEST), 1)
        self.assertEqual(column([1], GREATEST), 0)

    def test_great_positions_go_on_as_small_ones(self):
        for widths in EXAMPLES[1:]:
            start = GREATEST // widths[0] * widths[0]
            self.assertEqual(column(widths, GREATEST), column(widths, GREATEST - start))

    def test_widest(self):
        self.assertEqual([column([10000], 9999), column([10000], 10000)], [9999, 0])

    def test_twice_is_once(self):
        for widths in EXAMPLES:
            for position in range(50):
                self.assertEqual(column(widths + widths, position), column(widths, position))

    def test_by_name(self):
        self.assertEqual(column(position=9, widths=[10, 8, 5, 3]), 1)

    def test_more_widths_than_the_limit(self):
        self.assertEqual(column([5] * 21, 12), 2)


class ColumnsTest(unittest.TestCase):
    """Point 10."""

    def test_example(self):
        self.assertEqual(columns([8, 5, 3], 8), [0, 1, 2, 0, 1, 0, 1, 2])

    def test_as_wrapped(self):
        for widths in small_lists():
            self.assertEqual(columns(widths, 40), wrapped_columns(widths, 40), widths)

    def test_edges_of_the_length(self):
        self.assertEqual(columns([5, 3], 0), [])
        self.assertEqual(columns([], 0), [])
        self.assertEqual(columns([5, 3], 1), [0])
        self.assertEqual(columns([], 1000), list(range(1000)))
        self.assertEqual(columns([1], 1000), [0] * 1000)
        self.assertEqual(columns([10000], 1000), list(range(1000)))
        self.assertEqual(columns(TWENTY, 1000), wrapped_columns(TWENTY, 1000))

    def test_wrong_length(self):
        for length in NOT_INTEGERS + [-1, 1001, GREATEST]:
            self.assertRaises(InvalidLength, columns, [5, 3], length)

    def test_by_name(self):
        self.assertEqual(columns(length=4, widths=[3]), [0, 1, 2, 0])

    def test_result_is_new(self):
        columns([3], 4).append('more')
        self.assertEqual(columns([3], 4), [0, 1, 2, 0])


class BreaksTest(unittest.TestCase):
    """Points 5, 9 (a) and 10."""

    def test_examples(self):
        self.assertEqual([is_break([8, 5, 3], 5), is_break([8, 5, 3], 6)], [True, False])
        self.assertEqual(last_break([8, 5, 3], 12), 11)

    def test_as_wrapped(self):
        for widths in small_lists():
            for piece in wrapped(widths, 40):
                for position in piece:
                    self.assertIs(is_break(widths, position), position == piece[0])
                    self.assertEqual(last_break(widths, position), piece[0])

    def test_without_widths(self):
        self.assertIs(is_break([], 0), True)
        self.assertIs(is_break([], 1), False)
        self.assertIs(is_break([], GREATEST), False)
        self.assertEqual([last_break([], 0), last_break([], GREATEST)], [0, 0])

    def test_position_0(self):
        for widths in EXAMPLES:
            self.assertIs(is_break(widths, 0), True)
            self.assertEqual(last_break(widths, 0), 0)

    def test_great_positions(self):
        self.assertIs(is_break([10000], GREATEST), True)
        self.assertIs(is_break([9999], GREATEST), False)
        self.assertIs(is_break([1], GREATEST), True)
        self.assertEqual(last_break([10000], GREATEST), GREATEST)
        self.assertEqual(last_break([10000], GREATEST - 1), GREATEST - 10000)
        self.assertEqual(last_break([9999], GREATEST), GREATEST - 100)
        self.assertEqual(last_break([1], GREATEST), GREATEST)

    def test_by_name(self):
        self.assertIs(is_break(position=5, widths=[8, 5, 3]), True)
        self.assertEqual(last_break(position=12, widths=[8, 5, 3]), 11)


class EffectiveTest(unittest.TestCase):
    """Points 9 (b) and 10."""

    def test_example(self):
        self.assertEqual(effective([5, 8, 3, 3, 2]), [5, 3, 2])

    def test_cases(self):
        self.assertEqual(effective([]), [])
        self.assertEqual(effective([10000]), [10000])
        self.assertEqual(effective([4, 4, 4]), [4])
        self.assertEqual(effective([6, 3, 4]), [6, 3])
        self.assertEqual(effective([6, 3, 4, 2, 3]), [6, 3, 2])
        self.assertEqual(effective([1] + [10000] * 19), [1])
        self.assertEqual(effective(list(range(1, 21))), [1])
        self.assertEqual(effective(TWENTY), TWENTY)

    def test_by_definition(self):
        for widths in small_lists():
            kept = [width for at, width in enumerate(widths) if all(width < other for other in widths[:at])]
            self.assertEqual(effective(widths), kept)

    def test_has_the_same_effect(self):
        for widths in small_lists():
            self.assertEqual(wrapped(effective(widths), 45), wrapped(widths, 45), widths)

    def test_result_is_new(self):
        widths = [5, 3]
        result = effective(widths)
        self.assertIsNot(result, widths)
        result.append(1)
        self.assertEqual(widths, [5, 3])
        empty = []
        self.assertIsNot(effective(empty), empty)

    def test_by_name(self):
        self.assertEqual(effective(widths=[5, 5]), [5])


class WrongArgumentsTest(unittest.TestCase):
    """Points 2 and 10."""

    def test_wrong_widths(self):
        for widths in NOT_WIDTHS:
            self.assertRaises(InvalidWidths, effective, widths)
            for function in (column, columns, is_break, last_break):
                self.assertRaises(InvalidWidths, function, widths, 0)

    def test_wrong_position(self):
        for position in NOT_POSITIONS:
            for function in (column, is_break, last_break):
                self.assertRaises(InvalidPosition, function, [5, 3], position)
                self.assertRaises(InvalidPosition, function, [], position)

    def test_widths_are_checked_first(self):
        for function in (column, columns, is_break, last_break):
            for second in (-1, None, True, GREATEST + 1):
                self.assertRaises(InvalidWidths, function, [0], second)
                self.assertRaises(InvalidWidths, function, (5, 3), second)

    def test_arguments_are_not_changed(self):
        widths = [6, 3, 4, 2, 3]
        for function in (column, columns, is_break, last_break):
            function(widths, 100)
            self.assertEqual(widths, [6, 3, 4, 2, 3])
        effective(widths)
        self.assertEqual(widths, [6, 3, 4, 2, 3])
