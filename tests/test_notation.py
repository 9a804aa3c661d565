import itertools
import unittest

from hardwraps.errors import InvalidPieces, InvalidWidths, ParseError
from hardwraps.notation import format_pieces, format_widths, parse_pieces, parse_widths
from tests.support import EXAMPLES, NOT_WIDTHS, TWENTY, WIDE_LISTS, random_lists

NOT_STRINGS = [None, True, False, 0, 5, 10 ** 30, b'', b'5', b'-', [], [5], ['5'], (), (5, 3), {}, {'5'}, object(), str]

NOT_PIECES = [
    None, True, 5, '', '3+2', (), (3, 2), {}, {3}, object(), [], [0], [-1], [3, 0], [True], [3, '2'], [[3]],
    [10001], [10000, 1], [1] * 401, [25] * 400 + [1], [3, None],
]

# Parts that are not written as a number from 1 on.
NOT_NUMBERS = [
    '', '0', '00', '01', '010', '-1', '+1', ' 1', '1 ', '1 0', '1.0', '1.', '.1', '1_0', '0x1', '1e3', 'x', '1x',
    'x1', '-', '--', '\t1', '1\t', '\n1', '1\n', '1\n1', 'one', 'True', '[1]', '1;', '0' * 4000, '0' * 4000 + '1',
]


def part_is_wrong(part):
    return not part or part[0] == '0' or any(sign not in '0123456789' for sign in part)


class FormatTest(unittest.TestCase):
    """Point 21."""

    def test_examples(self):
        self.assertEqual(
            [format_widths([10, 8]), format_widths([]), format_pieces([3, 2, 3])], ['10,8', '-', '3+2+3'])

    def test_widths(self):
        self.assertEqual(format_widths([7]), '7')
        self.assertEqual(format_widths([10000, 1, 9, 10]), '10000,1,9,10')
        self.assertEqual(format_widths([3, 3, 8]), '3,3,8')

    def test_pieces(self):
        self.assertEqual(format_pieces([7]), '7')
        self.assertEqual(format_pieces([10000]), '10000')
        self.assertEqual(format_pieces([2, 3]), '2+3')
        self.assertEqual(format_pieces([1] * 400), '1+' * 399 + '1')
        self.assertEqual(format_pieces([25] * 400), '25+' * 399 + '25')

    def test_wrong_widths(self):
        for widths in NOT_WIDTHS:
            with self.assertRaises(InvalidWidths, msg=repr(widths)):
                format_widths(widths)

    def test_wrong_pieces(self):
        for pieces in NOT_PIECES:
            with self.assertRaises(InvalidPieces, msg=repr(pieces)):
                format_pieces(pieces)

    def test_by_name(self):
        self.assertEqual([format_widths(widths=[5, 3]), format_pieces(pieces=[3, 2])], ['5,3', '3+2'])

    def test_arguments_stay(self):
        numbers = [5, 3]
        format_widths(numbers)
        format_pieces(numbers)
        self.assertEqual(numbers, [5, 3])


class ParseCase(unittest.TestCase):

    def check_index(self, parse, text, index):
        with self.assertRaises(ParseError, msg=repr(text)[:80]) as caught:
            parse(text)
        self.assertEqual(caught.exception.index, index, repr(text)[:80])


class ParseWidthsTest(ParseCase):
    """Point 22, for widths."""

    def test_example(self):
        self.assertEqual(parse_widths('10,8,5'), [10, 8, 5])

    def test_no_widths(self):
        self.assertEqual(parse_widths('-'), [])

    def test_back_and_forth(self):
        for widths in EXAMPLES + WIDE_LISTS + random_lists(211, 50, 10000, 20):
            self.assertEqual(parse_widths(format_widths(widths)), widths)

    def test_numbers(self):
        self.assertEqual(parse_widths('1'), [1])
        self.assertEqual(parse_widths('10000'), [10000])
        self.assertEqual(parse_widths('10,100,1000,3,3,8'), [10, 100, 1000, 3, 3, 8])

    def test_all_short_texts(self):
        for length in range(6):
            for signs in itertools.product('01,-', repeat=length):
                text = ''.join(signs)
                parts = text.split(',')
                wrong = [at for at, part in enumerate(parts) if part_is_wrong(part) or int(part) > 10000]
                if text == '-':
                    self.assertEqual(parse_widths(text), [])
                elif wrong:
                    self.check_index(parse_widths, text, wrong[0])
                else:
                    self.assertEqual(parse_widths(text), [int(part) for part in parts])

    def test_wrong_parts(self):
        for part in NOT_NUMBERS:
            if part != '-':
                self.check_index(parse_widths, part, 0)
            self.check_index(parse_widths, part + ',5', 0)
            self.check_index(parse_widths, '5,' + part, 1)
            self.check_index(parse_widths, '5,3,' + part + ',' + part, 2)
            self.check_index(parse_widths, '5,3,' + part + ',0,1', 2)

    def test_empty_parts(self):
        self.check_index(parse_widths, '', 0)
        self.check_index(parse_widths, ',', 0)
        self.check_index(parse_widths, ',5', 0)
        self.check_index(parse_widths, '5,', 1)
        self.check_index(parse_widths, '5,,3', 1)

    def test_other_signs_between(self):
        for text in ('10+8', '10;8', '10 8', '10, 8', '10 ,8'):
            self.check_index(parse_widths, text, 0 if text != '10, 8' else 1)

    def test_widths_too_wide(self):
        self.check_index(parse_widths, '10001', 0)
        self.check_index(parse_widths, '10000,10001', 1)
        self.check_index(parse_widths, '5,99999,3', 1)
        self.check_index(parse_widths, '5,100000', 1)

    def test_very_many_digits(self):
        for many in (100, 4299, 4300, 4301, 5000):
            self.check_index(parse_widths, '1' * many, 0)
        self.check_index(parse_widths, '5,' + '9' * 4990 + ',0', 1)

    def test_many_widths(self):
        self.assertEqual(parse_widths(','.join(['7'] * 20)), [7] * 20)
        self.assertEqual(parse_widths(format_widths(TWENTY)), TWENTY)
        self.check_index(parse_widths, ','.join(['7'] * 19 + ['x']), 19)

    def test_digits_beyond_ascii(self):
        for digit in ('\u0663', '\u00b2', '\uff15', '1\u0660'):
            self.check_index(parse_widths, digit, 0)

    def test_not_a_string(self):
        for value in NOT_STRINGS:
            self.check_index(parse_widths, value, None)

    def test_by_name(self):
        self.assertEqual(parse_widths(text='5,3'), [5, 3])

    def test_lists_are_new(self):
        for text in ('-', '5,3'):
            expected = parse_widths(text)
            found = parse_widths(text)
            found.append(1)
            self.assertEqual(parse_widths(text), expected)


class ParsePiecesTest(ParseCase):
    """Point 22, for pieces."""

    def test_example(self):
        self.check_index(parse_pieces, '3+02', 1)

    def test_back_and_forth(self):
        for pieces in random_lists(221, 100, 500, 20) + [[1] * 400, [25] * 400, [10000], [9999, 1], [1, 9999], [2, 3]]:
            self.assertEqual(parse_pieces(format_pieces(pieces)), pieces)

    def test_all_short_texts(self):
        for length in range(6):
            for signs in itertools.product('01+-', repeat=length):
                text = ''.join(signs)
                parts = text.split('+')
                wrong = [at for at, part in enumerate(parts) if part_is_wrong(part) or int(part) > 10000]
                if wrong:
                    self.check_index(parse_pieces, text, wrong[0])
                else:
                    self.assertEqual(parse_pieces(text), [int(part) for part in parts])

    def test_wrong_parts(self):
        for part in NOT_NUMBERS:
            if part != '+1':
                self.check_index(parse_pieces, part, 0)
                self.check_index(parse_pieces, part + '+5', 0)
                self.check_index(parse_pieces, '5+3+' + part + '+' + part, 2)
            self.check_index(parse_pieces, '5+' + part, 1)
            self.check_index(parse_pieces, '5+3+' + part + '+0+1', 2)

    def test_empty_parts(self):
        self.check_index(parse_pieces, '', 0)
        self.check_index(parse_pieces, '+', 0)
        self.check_index(parse_pieces, '+5', 0)
        self.check_index(parse_pieces, '5+', 1)
        self.check_index(parse_pieces, '5++3', 1)

    def test_there_is_no_notation_for_no_pieces(self):
        self.check_index(parse_pieces, '-', 0)

    def test_other_signs_between(self):
        for text in ('10,8', '10;8', '10 8', '10 +8'):
            self.check_index(parse_pieces, text, 0)
        self.check_index(parse_pieces, '10+8,5', 1)
        self.check_index(parse_pieces, '10+ 8', 1)

    def test_400_pieces_and_more(self):
        self.assertEqual(parse_pieces('+'.join(['1'] * 400)), [1] * 400)
        for part in ('1', '', 'x', '0', '5'):
            for more in (1, 2, 100):
                self.check_index(parse_pieces, '+'.join(['1'] * 400 + [part] * more), 400)
        self.check_index(parse_pieces, '+'.join(['1'] * 399 + ['x', '1']), 399)
        self.check_index(parse_pieces, '+' * 500, 0)

    def test_10000_characters_and_more(self):
        self.assertEqual(parse_pieces('10000'), [10000])
        self.check_index(parse_pieces, '10001', 0)
        self.assertEqual(parse_pieces('9999+1'), [9999, 1])
        self.check_index(parse_pieces, '9999+2', 1)
        self.check_index(parse_pieces, '9999+1+1', 2)
        self.check_index(parse_pieces, '9999+1+0', 2)
        self.check_index(parse_pieces, '5000+5001+x', 1)
        self.check_index(parse_pieces, '5000+x+5001', 1)
        self.assertEqual(parse_pieces('+'.join(['25'] * 400)), [25] * 400)
        self.check_index(parse_pieces, '+'.join(['25'] * 401), 400)
        self.check_index(parse_pieces, '+'.join(['25'] * 399 + ['26']), 399)
        self.check_index(parse_pieces, '+'.join(['100'] * 150), 100)

    def test_very_many_digits(self):
        for many in (6, 100, 4299, 4300, 4301, 5000):
            self.check_index(parse_pieces, '1' * many, 0)
        self.check_index(parse_pieces, '5+' + '9' * 4990 + '+0', 1)

    def test_digits_beyond_ascii(self):
        for digit in ('\u0663', '\u00b2', '\uff15', '1\u0660'):
            self.check_index(parse_pieces, digit, 0)

    def test_not_a_string(self):
        for value in NOT_STRINGS:
            self.check_index(parse_pieces, value, None)

    def test_by_name(self):
        self.assertEqual(parse_pieces(text='3+2'), [3, 2])

    def test_lists_are_new(self):
        found = parse_pieces('3+2')
        found.append(1)
        self.assertEqual(parse_pieces('3+2'), [3, 2])
