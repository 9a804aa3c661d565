import itertools
import random
import unittest

from hardwraps.errors import InvalidText, InvalidWidths, NoWidths
from hardwraps.forms import descent
from hardwraps.texts import widths_between, wrap_text
from tests.support import (
    EXAMPLES, NOT_WIDTHS, TWENTY, WIDE, WIDE_LISTS, descent_by_rule, falling_lists, random_lists,
    small_lists, wrapped, wrapped_columns,
)

# Values that are never a text.
NOT_TEXTS = [None, True, False, 0, 5, 10 ** 30, b'', b'abc', [], ['abc'], (), ('abc',), {}, {'abc'}, object(), str]

# All characters that texts consist of, except the newline.
SIGNS = '\t' + ''.join([chr(code) for code in range(32, 127) if chr(code) != '%'])


def wrapped_text(widths, text):
    """Return the text after the programs have run, each line wrapped the slow way."""
    rows = []
    for line in text.split('\n'):
        pieces = [''.join([line[at] for at in piece]) for piece in wrapped(widths, len(line))]
        rows.extend(pieces or [''])
    return '\n'.join(rows)


def random_text(chance, length, signs=SIGNS, share=0.1):
    """Return a text of this many characters, about `share` of them newlines."""
    return ''.join(['\n' if chance.random() < share else chance.choice(signs) for _ in range(length)])


def longest_line(text):
    return max([len(line) for line in text.split('\n')])


class WrapTextTest(unittest.TestCase):
    """Points 1, 5, 9 (f) and 19."""

    def test_example(self):
        self.assertEqual(wrap_text([5, 3], 'abcdefg'), 'abc\nde\nfg')

    def test_example_of_the_overview(self):
        text = wrap_text([10, 8, 5, 3], 'abcdefghijk')
        self.assertEqual(text, 'abc\nde\nfgh\nij\nk')

    def test_small_texts(self):
        texts = [''.join(signs) for length in range(8) for signs in itertools.product('a\n', repeat=length)]
        for widths in EXAMPLES[:12]:
            for text in texts:
                self.assertEqual(wrap_text(widths, text), wrapped_text(widths, text), (widths, text))

    def test_random_texts(self):
        chance = random.Random(19)
        for widths in EXAMPLES + random_lists(191, 60, 40, 8) + WIDE_LISTS:
            for share in (0, 0.02, 0.1, 0.5):
                text = random_text(chance, chance.randint(0, 200), SIGNS, share)
                self.assertEqual(wrap_text(widths, text), wrapped_text(widths, text), (widths, text))

    def test_the_empty_text_stays(self):
        for widths in EXAMPLES + WIDE_LISTS:
            self.assertEqual(wrap_text(widths, ''), '')

    def test_empty_lines_stay(self):
        for widths in ([], [1], [5, 3]):
            for text in ('\n', '\n\n', '\n\n\n\n'):
                self.assertEqual(wrap_text(widths, text), text)
        self.assertEqual(wrap_text([2], '\nabc\n\n\nde\n'), '\nab\nc\n\n\nde\n')

    def test_a_newline_at_the_end_stays(self):
        self.assertEqual(wrap_text([3], 'abcdef\n'), 'abc\ndef\n')
        self.assertEqual(wrap_text([3], 'abc\n'), 'abc\n')

    def test_a_line_as_long_as_the_width_is_not_broken(self):
        self.assertEqual(wrap_text([3], 'abc\nde'), 'abc\nde')
        self.assertEqual(wrap_text([3], 'abcd\nabcdef\nabcdefg'), 'abc\nd\nabc\ndef\nabc\ndef\ng')

    def test_without_widths_the_text_stays(self):
        for text in ('', 'abc', 'a b\tc', '\n', 'ab\n\ncd\n', 'x' * 5000):
            self.assertEqual(wrap_text([], text), text)

    def test_tabs_and_spaces_count_as_one_character(self):
        self.assertEqual(wrap_text([2], '\t\t\ta'), '\t\t\n\ta')
        self.assertEqual(wrap_text([2], 'a  b '), 'a \n b\n ')
        self.assertEqual(wrap_text([3], ' \t \t '), ' \t \n\t ')

    def test_only_newlines_separate_lines(self):
        self.assertEqual(wrap_text([2], 'a\rb\r\nc'), 'a\r\nb\r\nc')
        self.assertEqual(wrap_text([4], 'a\x0bb\x0cc'), 'a\x0bb\x0c\nc')

    def test_lines_are_never_joined(self):
        self.assertEqual(wrap_text([5], 'ab\ncd\nefghijk'), 'ab\ncd\nefghi\njk')

    def test_one_program_after_the_other(self):
        chance = random.Random(192)
        for widths in random_lists(193, 40, 30, 6) + [TWENTY]:
            text = random_text(chance, 300, SIGNS, 0.01)
            step = text
            for width in widths:
                step = wrap_text([width], step)
            self.assertEqual(wrap_text(widths, text), step, widths)

    def test_running_the_same_widths_twice(self):
        chance = random.Random(194)
        for widths in EXAMPLES + random_lists(195, 40, 30, 6):
            text = random_text(chance, 300, SIGNS, 0.02)
            once = wrap_text(widths, text)
            self.assertEqual(wrap_text(widths, once), once, widths)
            self.assertEqual(wrap_text(widths + widths, text), once, widths)

    def test_long_texts(self):
        chance = random.Random(196)
        line = random_text(chance, 5000, SIGNS, 0)
        self.assertEqual(wrap_text([1], line), '\n'.join(line))
        self.assertEqual(wrap_text([5000], line), line)
        self.assertEqual(wrap_text([10000], line), line)
        self.assertEqual(wrap_text([4999], line), line[:4999] + '\n' + line[4999:])
        for widths in (TWENTY, WIDE, [4000, 1], [8, 5, 3]):
            self.assertEqual(wrap_text(widths, line), wrapped_text(widths, line))
        self.assertEqual(wrap_text([3], '\n' * 5000), '\n' * 5000)
        for share in (0.001, 0.1, 0.5, 0.9):
            text = random_text(chance, 5000, SIGNS, share)
            self.assertEqual(wrap_text([13, 8, 5, 3], text), wrapped_text([13, 8, 5, 3], text))

    def test_a_text_that_was_returned_may_be_longer(self):
        rows = wrap_text([2], 'x' * 5000)
        self.assertEqual(len(rows), 7499)
        self.assertEqual(wrap_text([1], rows), '\n'.join('x' * 5000))

    def test_wrong_widths(self):
        for widths in NOT_WIDTHS:
            with self.assertRaises(InvalidWidths):
                wrap_text(widths, 'abc')

    def test_wrong_texts(self):
        for text in NOT_TEXTS:
            for widths in ([], [5, 3]):
                with self.assertRaises(InvalidText):
                    wrap_text(widths, text)

    def test_widths_are_checked_first(self):
        with self.assertRaises(InvalidWidths):
            wrap_text([0], None)
        with self.assertRaises(InvalidWidths):
            wrap_text('abc', [5, 3])

    def test_by_name(self):
        self.assertEqual(wrap_text(text='abcdefg', widths=[5, 3]), 'abc\nde\nfg')

    def test_arguments_stay(self):
        widths = [8, 5, 3]
        wrap_text(widths, 'abcdefghi\njk')
        self.assertEqual(widths, [8, 5, 3])


class WidthsBetweenTest(unittest.TestCase):
    """Points 9 (b) and (d), and 19."""

    def check_none(self, before, after):
        with self.assertRaises(NoWidths, msg=(before, after)):
            widths_between(before, after)

    def test_example(self):
        self.assertEqual(widths_between('abcdefg', 'abc\nde\nfg'), [5, 3])

    def test_all_small_texts(self):
        # By point 9 (b) a list without effect-free widths less than the longest line suffices.
        for lengths in [(n,) for n in range(1, 9)] + [(2, 5), (5, 2), (4, 4), (0, 6), (3, 0, 5), (6, 1, 0)]:
            before = '\n'.join(['abcdefghi'[:length] for length in lengths])
            longest = max(lengths)
            expected = {}
            for widths in falling_lists(longest):
                expected[wrapped_text(widths, before)] = descent_by_rule(wrapped_columns(widths, longest))
            for after in broken_texts(before):
                if after in expected:
                    self.assertEqual(widths_between(before, after), expected[after], (before, after))
                else:
                    self.check_none(before, after)

    def test_widths_in_any_order(self):
        before = 'abcdefghi\nabc\n\nabcdefghijklmno\n'
        for widths in small_lists():
            after = wrapped_text(widths, before)
            self.assertEqual(widths_between(before, after), descent(widths, 15), widths)

    def test_random_texts(self):
        chance = random.Random(197)
        for widths in EXAMPLES + random_lists(198, 100, 60, 8):
            before = random_text(chance, 300, SIGNS, 0.02)
            after = wrap_text(widths, before)
            found = widths_between(before, after)
            self.assertEqual(found, descent(widths, longest_line(before)), widths)
            self.assertEqual(wrap_text(found, before), after)

    def test_no_line_is_broken(self):
        for text in ('', '\n', '\n\n\n', 'a', 'abc', 'ab\ncd', 'ab\n\ncd\n', '\t \n', 'x' * 5000):
            self.assertEqual(widths_between(text, text), [])

    def test_the_longest_line_tells(self):
        self.assertEqual(widths_between('abcd\nabcdefgh\nab', 'abc\nd\nabc\nde\nfgh\nab'), [5, 3])
        self.assertEqual(widths_between('abcdefgh\nabcdefgh', 'abcde\nfgh\nabcde\nfgh'), [5])
        self.assertEqual(widths_between('\nab\nabc\n', '\nab\nab\nc\n'), [2])

    def test_lines_that_disagree(self):
        self.check_none('abcd\nabcd', 'ab\ncd\nabc\nd')
        self.check_none('abcd\nabcd', 'ab\ncd\nabcd')
        self.check_none('abcd\nabcd', 'abcd\nab\ncd')
        self.check_none('abcd\nabcdefgh', 'ab\ncd\nabc\nde\nfgh')
        self.check_none('abcdefgh\nabc', 'abcdefgh\nab\nc')

    def test_pieces_that_no_widths_give(self):
        self.check_none('abcde', 'ab\ncde')
        self.check_none('abcdefgh', 'abc\nd\nefgh')
        self.check_none('x' * 5000, 'x' * 2499 + '\n' + 'x' * 2501)

    def test_other_characters(self):
        self.check_none('abcde', 'abc\ndf')
        self.check_none('abcde', 'abc\nd')
        self.check_none('abcde', 'abc\ndef')
        self.check_none('abcde', 'Abc\nde')
        self.check_none('a\tb', 'a b')
        self.check_none('abc', 'abc ')
        self.check_none('', 'a')
        self.check_none('a', '')
        self.check_none('ab\ncd', 'ab\nce')
        self.check_none('ab\ncd', 'ba\ncd')

    def test_joined_lines(self):
        self.check_none('ab\ncd', 'abcd')
        self.check_none('ab\ncd', 'abc\nd')
        self.check_none('ab\ncd', 'a\nbc\nd')
        self.check_none('a\n\nb', 'a\nb')

    def test_lines_too_many_or_too_few(self):
        self.check_none('', '\n')
        self.check_none('\n', '')
        self.check_none('abc', 'abc\n')
        self.check_none('abc', '\nabc')
        self.check_none('abc\n', 'abc')
        self.check_none('abc\n', 'ab\nc')
        self.check_none('abcd', 'ab\n\ncd')
        self.check_none('abcd', 'ab\ncd\n')
        self.check_none('abcd', '\nab\ncd')
        self.check_none('ab\n\ncd', 'ab\n\n\ncd')
        self.check_none('abc\nab', 'abc')
        self.check_none('abc', 'abc\nab')

    def test_empty_lines_and_a_newline_at_the_end(self):
        self.assertEqual(widths_between('\nabc\n\n', '\nab\nc\n\n'), [2])
        self.assertEqual(widths_between('abcd\n', 'ab\ncd\n'), [2])
        self.assertEqual(widths_between('\n\nabcd', '\n\nabc\nd'), [3])

    def test_long_texts(self):
        line = random_text(random.Random(199), 5000, SIGNS, 0)
        self.assertEqual(widths_between(line, '\n'.join(line)), [1])
        self.assertEqual(widths_between(line, line[:4999] + '\n' + line[4999:]), [4999])
        for widths in (TWENTY, WIDE, [4000, 1], [8, 5, 3]):
            self.assertEqual(widths_between(line, wrap_text(widths, line)), descent(widths, 5000))
        short = '\n'.join('x' * 2500)
        self.assertEqual(widths_between(short, short), [])

    def test_a_long_list_of_widths(self):
        before = 'x' * 5000
        after = '\n'.join(['x' * 2500] + ['x'] * 2500)
        self.assertEqual(widths_between(before, after), list(range(4999, 2499, -1)))

    def test_texts_that_were_returned_may_be_longer(self):
        before = wrap_text([3], 'x' * 5000)
        after = wrap_text([2], before)
        self.assertEqual(widths_between(before, after), [2])
        self.assertEqual(widths_between(after, wrap_text([1], after)), [1])

    def test_no_width_is_wider_than_the_widest(self):
        self.assertEqual(widths_between('x' * 10002, 'x' * 10000 + '\nxx'), [10000])
        self.check_none('x' * 10002, 'x' * 10001 + '\nx')

    def test_wrong_texts(self):
        for text in NOT_TEXTS:
            for pair in ((text, 'abc'), ('abc', text), (text, text)):
                with self.assertRaises(InvalidText):
                    widths_between(*pair)

    def test_by_name(self):
        self.assertEqual(widths_between(after='ab\nc', before='abc'), [2])

    def test_lists_are_new(self):
        found = widths_between('abcdefg', 'abc\nde\nfg')
        found.append(1)
        self.assertEqual(widths_between('abcdefg', 'abc\nde\nfg'), [5, 3])
        empty = widths_between('a', 'a')
        empty.append(1)
        self.assertEqual(widths_between('a', 'a'), [])


def broken_texts(text):
    """Return the text with up to one newline put between any two of its signs, in all ways."""
    if not text:
        return ['']
    texts = [text[0]]
    for sign in text[1:]:
        texts = [broken + middle + sign for broken in texts for middle in ('', '\n')]
    return texts
