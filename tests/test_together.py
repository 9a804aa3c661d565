"""Tests over several modules together."""

import random
import unittest

from hardwraps.changes import commute, redundant
from hardwraps.console import Console
from hardwraps.counting import count_of_length, count_pieces, nth_break, piece_lengths, piece_sizes
from hardwraps.documents import Document
from hardwraps.errors import NotWrapped, NoWidths, WrapError
from hardwraps.forms import are_equal, are_equal_to, descent, first_difference, normal_form
from hardwraps.notation import format_pieces, format_widths, parse_pieces, parse_widths
from hardwraps.periods import has_period, least_period, least_period_to
from hardwraps.reading import (
    count_lists, first_obstacle, list_index, nth_list, shortest_for_lines, shortest_widths,
)
from hardwraps.texts import widths_between, wrap_text
from hardwraps.wrapping import column, columns, effective, is_break, last_break
from tests.support import EXAMPLES, GREATEST, WIDE_LISTS, compositions, random_lists

LISTS = EXAMPLES + random_lists(301, 60, 40, 8)


def texts(seed, many):
    """Return texts of several lines, some of them empty."""
    chance = random.Random(seed)
    found = []
    for _ in range(many):
        lengths = [chance.choice([0, 1, chance.randint(0, 70)]) for _ in range(chance.randint(1, 6))]
        found.append('\n'.join([''.join(chance.choices('ab c\t', k=length)) for length in lengths]))
    return found


def document_of(widths, text):
    """Return a document with the lines of a text."""
    made = Document(widths)
    for index, line in enumerate(text.split('\n')):
        made.add_line(index, len(line))
    return made


class DocumentsAndTextsTest(unittest.TestCase):

    def test_the_rows_of_a_document_are_the_lines_of_the_text(self):
        for widths, text in zip(LISTS, texts(302, len(LISTS))):
            made = document_of(widths, text)
            lines = text.split('\n')
            rows = wrap_text(widths, text).split('\n')
            self.assertEqual(made.rows(), len(rows))
            for row, expected in enumerate(rows):
                line, first = made.locate(row)
                self.assertEqual(lines[line][first:first + len(expected)], expected)
                for position in range(first, first + len(expected)):
                    self.assertEqual(made.row_of(line, position), row)

    def test_rows_are_the_pieces(self):
        for widths in LISTS + WIDE_LISTS:
            made = Document(widths)
            made.add_line(0, 97)
            starts = [made.locate(row)[1] for row in range(made.rows())]
            sizes = [end - start for start, end in zip(starts, starts[1:] + [97])]
            self.assertEqual(sizes, piece_sizes(widths, 97))
            self.assertEqual(made.rows(), count_pieces(widths, 97))
            self.assertEqual(starts, [nth_break(widths, row) for row in range(made.rows())])

    def test_first_characters_of_rows_are_breaks(self):
        chance = random.Random(303)
        for widths in LISTS + WIDE_LISTS:
            made = Document(widths)
            made.add_line(0, GREATEST)
            for _ in range(5):
                position = chance.randrange(GREATEST)
                _, first = made.locate(made.row_of(0, position))
                self.assertEqual(first, last_break(widths, position))
                self.assertTrue(is_break(widths, first))

    def test_a_document_does_not_see_a_reduction(self):
        for widths, text in zip(LISTS, texts(304, len(LISTS))):
            self.assertTrue(document_of(widths, text) == document_of(normal_form(widths), text))
            self.assertTrue(document_of(widths, text) == document_of(effective(widths), text))

    def test_documents_and_are_equal(self):
        for widths in EXAMPLES:
            for other in EXAMPLES:
                self.assertIs(Document(widths) == Document(other), are_equal(widths, other))

    def test_removing_a_redundant_width(self):
        for widths in LISTS:
            made = Document(widths)
            for index in range(len(widths)):
                made.remove_width(index)
                self.assertIs(made == Document(widths), index in redundant(widths))
                made.undo()


class ReadingTest(unittest.TestCase):

    def test_the_same_line_is_read_in_the_same_way(self):
        for widths in LISTS + WIDE_LISTS:
            for length in (1, 2, 13, 60, 200):
                line = 'x' * length
                pieces = piece_sizes(widths, length)
                after = wrap_text(widths, line)
                self.assertEqual([len(row) for row in after.split('\n')], pieces)
                expected = descent(widths, length)
                self.assertEqual(widths_between(line, after), expected)
                self.assertEqual(shortest_widths(pieces), expected)
                self.assertEqual(shortest_for_lines([pieces]), expected)
                self.assertEqual(Console().execute('read ' + format_pieces(pieces)), format_widths(expected))

    def test_pieces_that_no_widths_give(self):
        for pieces in compositions(8):
            line = 'abcdefgh'
            after = '\n'.join([line[sum(pieces[:at]):sum(pieces[:at + 1])] for at in range(len(pieces))])
            if first_obstacle(pieces) is None:
                self.assertEqual(widths_between(line, after), shortest_widths(pieces))
                continue
            self.assertEqual(count_lists(pieces), 0)
            with self.assertRaises(NoWidths):
                widths_between(line, after)
            with self.assertRaises(NotWrapped) as caught:
                Console().execute('read ' + format_pieces(pieces))
            self.assertEqual(caught.exception.position, first_obstacle(pieces))

    def test_several_lines(self):
        for widths, text in zip(LISTS, texts(305, len(LISTS))):
            lines = [piece_sizes(widths, len(line)) for line in text.split('\n') if line]
            if lines:
                self.assertEqual(widths_between(text, wrap_text(widths, text)), shortest_for_lines(lines))

    def test_lists_that_fit_do_the_same_to_the_text(self):
        for widths in EXAMPLES:
            pieces = piece_sizes(widths, 40)
            after = wrap_text(widths, 'x' * 40)
            for index in range(min(count_lists(pieces), 20)):
                found = nth_list(pieces, index)
                self.assertEqual(wrap_text(found, 'x' * 40), after)
                self.assertTrue(are_equal_to(found, widths, 40))
                self.assertEqual(list_index(pieces, found), index)


class ConsoleTest(unittest.TestCase):

    def test_answers_are_those_of_the_functions(self):
        console = Console()
        for widths in LISTS + WIDE_LISTS:
            self.assertEqual(console.execute('widths ' + format_widths(widths)), 'ok')
            self.assertEqual(parse_widths(console.execute('show')), widths)
            self.assertEqual(parse_widths(console.execute('normal')), normal_form(widths))
            for number in (0, 1, 17, 1000, GREATEST):
                self.assertEqual(int(console.execute(f'column {number}')), column(widths, number))
                self.assertEqual(int(console.execute(f'count {number}')), count_pieces(widths, number))
                if widths:
                    self.assertEqual(int(console.execute(f'break {number}')), nth_break(widths, number))
            self.assertEqual(console.execute('compare ' + console.execute('normal')), 'equal')
            self.assertEqual(console.execute('compare -'), str(first_difference(widths, [])) if widths else 'equal')

    def test_errors_are_those_of_the_functions(self):
        for command, call in (
            ('widths 5,x', lambda: parse_widths('5,x')), ('read 3+x', lambda: parse_pieces('3+x')),
            ('read 2+3', lambda: shortest_widths([2, 3])), ('break 1', lambda: nth_break([], 1)),
        ):
            with self.assertRaises(WrapError) as expected:
                call()
            with self.assertRaises(expected.exception.__class__) as caught:
                Console().execute(command)
            self.assertEqual(vars(caught.exception), vars(expected.exception))

    def test_reading_what_was_counted(self):
        console = Console()
        for widths in LISTS:
            console.execute('read ' + format_pieces(piece_sizes(widths, 100)))
            self.assertEqual(console.execute('count 100'), str(count_pieces(widths, 100)))
            position = console.execute('compare ' + format_widths(widths))
            self.assertTrue(position == 'equal' or int(position) >= 100)


class FormsTest(unittest.TestCase):

    def test_normal_forms_wrap_in_the_same_way(self):
        for widths, text in zip(LISTS, texts(306, len(LISTS))):
            after = wrap_text(widths, text)
            self.assertEqual(wrap_text(normal_form(widths), text), after)
            self.assertEqual(wrap_text(effective(widths), text), after)
            longest = max([len(line) for line in text.split('\n')])
            if longest:
                self.assertEqual(wrap_text(descent(widths, longest), text), after)

    def test_texts_differ_from_the_first_difference_on(self):
        for widths in EXAMPLES:
            for other in EXAMPLES:
                position = first_difference(widths, other)
                if position is None:
                    self.assertEqual(wrap_text(widths, 'x' * 300), wrap_text(other, 'x' * 300))
                else:
                    line = 'x' * position
                    self.assertEqual(wrap_text(widths, line), wrap_text(other, line))
                    self.assertNotEqual(wrap_text(widths, line + 'x'), wrap_text(other, line + 'x'))

    def test_the_order_of_programs_that_commute(self):
        for first in EXAMPLES[:16]:
            for second in EXAMPLES[:16]:
                one = wrap_text(second, wrap_text(first, 'x' * 300))
                other = wrap_text(first, wrap_text(second, 'x' * 300))
                self.assertEqual(one, wrap_text(first + second, 'x' * 300))
                if commute(first, second):
                    self.assertEqual(one, other)

    def test_lengths_and_periods_of_the_pieces(self):
        for widths in LISTS:
            rows = wrap_text(widths, 'x' * 500).split('\n')
            sizes = [len(row) for row in rows]
            for size in range(1, 42):
                self.assertEqual(count_of_length(widths, 500, size), sizes.count(size))
            if widths:
                self.assertEqual(sorted(set(sizes[:-1])), piece_lengths(widths))
                self.assertTrue(has_period(widths, GREATEST, least_period(widths)))
                self.assertEqual(least_period_to(widths, 500), least_period(widths))
            self.assertEqual([at for size in sizes for at in range(size)], columns(widths, 500))


class WholeProgramTest(unittest.TestCase):
    """Point 2: equal calls return equal results, and all errors have one base."""

    def test_equal_calls(self):
        for widths in EXAMPLES:
            text = 'abcdefghijk' * 9
            after = wrap_text(widths, text)
            self.assertEqual(after, wrap_text(list(widths), text))
            self.assertEqual(widths_between(text, after), widths_between(text, after))
            self.assertIsNot(widths_between(text, after), widths_between(text, after))

    def test_errors_are_value_errors(self):
        for call in (
            lambda: wrap_text(None, ''), lambda: wrap_text([], None), lambda: widths_between('', 'a'),
            lambda: Document(None), lambda: Document().undo(), lambda: Document().locate(0),
            lambda: format_widths(None), lambda: format_pieces([]), lambda: parse_widths(None),
            lambda: parse_pieces(''), lambda: Console().execute(''), lambda: shortest_for_lines([]),
        ):
            with self.assertRaises(ValueError) as caught:
                call()
            self.assertIsInstance(caught.exception, WrapError)
