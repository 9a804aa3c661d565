import unittest

from hardwraps.console import Console
from hardwraps.counting import count_pieces, nth_break
from hardwraps.errors import InvalidCommand, InvalidIndex, NotWrapped, ParseError
from hardwraps.forms import first_difference, normal_form
from hardwraps.notation import format_pieces, format_widths
from hardwraps.reading import shortest_widths
from hardwraps.wrapping import column
from tests.support import EXAMPLES, GREATEST, WIDE_LISTS, random_lists, wrapped

# Words that are not a number from 0 to 10 ** 30 in decimal digits without leading zeros.
NOT_NUMBERS = [
    '', '-1', '-0', '+1', '00', '01', '007', '1.0', '1e3', '1_0', '0x1', 'x', '1x', '-', '1,2', '1+2', '\t1', '1\t',
    '1\n', '\n', str(GREATEST + 1), '9' * 31, '1' + '0' * 31, '0' + str(GREATEST), '1' * 100, '1' * 4300, '1' * 4301,
    '9' * 4980, '0' * 4980, '\u0663', '\u00b2',
]


def console_with(widths):
    console = Console()
    console.execute('widths ' + format_widths(widths))
    return console


class ConsoleTest(unittest.TestCase):
    """Point 23."""

    def check_refused(self, console, error, command):
        """Check that a command raises the error and changes nothing."""
        before = console.execute('show')
        with self.assertRaises(error, msg=repr(command)[:80]) as caught:
            console.execute(command)
        self.assertEqual(console.execute('show'), before, repr(command)[:80])
        return caught.exception

    def test_example(self):
        console = Console()
        answers = [console.execute('widths 10,8,5,3'), console.execute('normal')]
        self.assertEqual(
            answers + [console.execute('compare 8,5,3'), console.execute('read 3+2+2')], ['ok', '5,3', '10', '5,3'])

    def test_no_widths_at_first(self):
        console = Console()
        self.assertEqual(console.execute('show'), '-')
        self.assertEqual(console.execute('normal'), '-')
        self.assertEqual(console.execute('column 1000'), '1000')
        self.assertEqual(console.execute('count 1000'), '1')
        self.assertEqual(console.execute('count 0'), '0')
        self.assertEqual(console.execute('break 0'), '0')
        self.assertEqual(console.execute('compare -'), 'equal')
        self.assertEqual(console.execute('compare 7'), '7')

    def test_widths_and_show(self):
        console = Console()
        for text in ('5', '5,3', '10,8,5,3', '-', '3,3,10000,1'):
            self.assertEqual(console.execute('widths ' + text), 'ok')
            self.assertEqual(console.execute('show'), text)

    def test_normal(self):
        for widths in EXAMPLES + WIDE_LISTS:
            console = console_with(widths)
            self.assertEqual(console.execute('normal'), format_widths(normal_form(widths)))
            self.assertEqual(console.execute('show'), format_widths(widths))

    def test_column_count_and_break(self):
        for widths in EXAMPLES + WIDE_LISTS + random_lists(231, 20, 10000, 20):
            console = console_with(widths)
            for number in (0, 1, 9, 10, 12345, 10 ** 29, GREATEST - 1, GREATEST):
                self.assertEqual(console.execute(f'column {number}'), str(column(widths, number)))
                self.assertEqual(console.execute(f'count {number}'), str(count_pieces(widths, number)))
                if widths:
                    self.assertEqual(console.execute(f'break {number}'), str(nth_break(widths, number)))

    def test_a_break_can_be_beyond_all_positions(self):
        self.assertEqual(console_with([10000]).execute(f'break {GREATEST}'), str(10000 * GREATEST))

    def test_compare(self):
        for widths in EXAMPLES:
            console = console_with(widths)
            for other in EXAMPLES:
                position = first_difference(widths, other)
                expected = 'equal' if position is None else str(position)
                self.assertEqual(console.execute('compare ' + format_widths(other)), expected)
            self.assertEqual(console.execute('show'), format_widths(widths))

    def test_read(self):
        console = console_with([7])
        for widths in EXAMPLES + random_lists(232, 30, 40, 8):
            pieces = [len(piece) for piece in wrapped(widths, 50)]
            found = format_widths(shortest_widths(pieces))
            self.assertEqual(console.execute('read ' + format_pieces(pieces)), found)
            self.assertEqual(console.execute('show'), found)

    def test_one_piece_is_read_as_no_widths(self):
        console = console_with([7])
        self.assertEqual(console.execute('read 10000'), '-')
        self.assertEqual(console.execute('show'), '-')

    def test_pieces_that_no_widths_give(self):
        console = console_with([8, 5, 3])
        self.assertEqual(self.check_refused(console, NotWrapped, 'read 2+3').position, 5)
        self.assertEqual(self.check_refused(console, NotWrapped, 'read 1+1+1+2').position, 5)

    def test_breaks_that_there_are_not(self):
        console = Console()
        for number in ('1', '2', str(GREATEST)):
            self.check_refused(console, InvalidIndex, 'break ' + number)

    def test_values_that_are_no_strings(self):
        console = console_with([5, 3])
        for value in [None, True, 0, 5, b'show', ['show'], ('show',), {'show'}, {}, object(), str]:
            self.check_refused(console, InvalidCommand, value)

    def test_first_words(self):
        console = console_with([5, 3])
        for command in (
            '', ' ', '  ', 'x', 'Show', 'SHOW', 'shows', 'sho', 'show\n', '\tshow', 'show\t', 'width 5', 'Widths 5',
            'undo', 'help', 'break1', 'widths,5', '5', '5 column', '- -', 'count\t5', 'execute show', 'widths\n5',
        ):
            self.check_refused(console, InvalidCommand, command)

    def test_numbers_of_words(self):
        console = console_with([5, 3])
        for command in (
            'show 5', 'show -', 'show show', 'normal 5', 'widths', 'widths 5 3', 'widths 5, 3', 'column', 'column 1 2',
            'count', 'count 1 2', 'break', 'break 1 2', 'compare', 'compare 5 3', 'read', 'read 3 2', 'read 3 + 2',
        ):
            self.check_refused(console, InvalidCommand, command)

    def test_spaces(self):
        console = console_with([5, 3])
        for word, rest in (
            ('show', []), ('normal', []), ('widths', ['7']), ('column', ['1']), ('count', ['1']), ('break', ['1']),
            ('compare', ['7']), ('read', ['3+2']),
        ):
            for command in (
                ' '.join([word] + rest + ['']), ' '.join(['', word] + rest), ' '.join(['', word] + rest + ['']),
                '  '.join([word] + rest + ['']), ' '.join([word, ''] + rest + ['']),
            ):
                self.check_refused(console, InvalidCommand, command)
        for command in ('widths  7', 'column  1', 'count  1', 'break  1', 'compare  7', 'read  3+2'):
            self.check_refused(console, InvalidCommand, command)

    def test_a_space_at_the_end_is_an_empty_word(self):
        console = console_with([5, 3])
        for command in ('column ', 'count ', 'break ', 'show ', 'normal '):
            self.check_refused(console, InvalidCommand, command)
        for command in ('widths ', 'compare ', 'read '):
            self.assertEqual(self.check_refused(console, ParseError, command).index, 0)

    def test_words_that_are_no_numbers(self):
        for console in (Console(), console_with([5, 3])):
            for name in ('column', 'count', 'break'):
                for word in NOT_NUMBERS:
                    self.check_refused(console, InvalidCommand, f'{name} {word}')

    def test_words_that_are_no_widths_or_pieces(self):
        console = console_with([5, 3])
        for name in ('widths', 'compare'):
            for word, index in (
                ('5,x', 1), ('05', 0), ('5,03', 1), ('5,,3', 1), ('5,', 1), (',', 0), ('0', 0), ('10001', 0),
                ('5,3,-', 2), ('5+3', 0), ('5,3\n', 1), ('5,' + '1' * 4900, 1), ('1' * 4900, 0), ('--', 0),
            ):
                self.assertEqual(self.check_refused(console, ParseError, f'{name} {word}').index, index)
        for word, index in (
            ('3+02', 1), ('3+', 1), ('+3', 0), ('-', 0), ('3,2', 0), ('0', 0), ('10001', 0), ('9999+2', 1),
            ('+'.join(['1'] * 401), 400), ('3+2+' + '1' * 4900, 2), ('2+3+x', 2),
        ):
            self.assertEqual(self.check_refused(console, ParseError, f'read {word}').index, index)

    def test_400_pieces(self):
        self.assertEqual(Console().execute('read ' + '+'.join(['1'] * 400)), '1')

    def test_order_of_the_checks(self):
        self.check_refused(Console(), InvalidCommand, 'widths x y')
        self.check_refused(Console(), InvalidCommand, 'read 2+3 x')
        self.check_refused(Console(), InvalidCommand, f'break {GREATEST + 1}')
        self.check_refused(Console(), ParseError, 'read 2+3+0')

    def test_answers_are_strings(self):
        console = Console()
        for command in (
            'widths 8,5,3', 'show', 'normal', 'column 7', 'count 7', 'break 7', 'compare 7', 'compare 8,5,3', 'read 3+2',
        ):
            self.assertIsInstance(console.execute(command), str)

    def test_consoles_are_independent(self):
        first = console_with([5, 3])
        second = Console()
        self.assertEqual([first.execute('show'), second.execute('show')], ['5,3', '-'])
        second.execute('widths 7')
        self.assertEqual([first.execute('show'), second.execute('show')], ['5,3', '7'])

    def test_by_name(self):
        self.assertEqual(Console().execute(command='show'), '-')
