import random
import unittest

from hardwraps.documents import Document
from hardwraps.errors import InvalidIndex, InvalidLength, InvalidPosition, InvalidWidths, NothingToUndo, TooMany
from tests.support import (
    EXAMPLES, GREATEST, NOT_INTEGERS, NOT_WIDTHS, TWENTY, WIDE_LISTS, computed_columns, random_lists, wrapped,
)

NOT_LENGTHS = NOT_INTEGERS + [-1, GREATEST + 1, 10 ** 40, -GREATEST]
NOT_A_WIDTH = NOT_INTEGERS + [0, -1, 10001, 10 ** 30]


def document(widths, lengths):
    """Return a document with these widths and lines."""
    made = Document(widths)
    for index, length in enumerate(lengths):
        made.add_line(index, length)
    return made


def rows_by_rule(widths, lengths):
    """Return the rows of a document, each one as its line and the list of its positions."""
    rows = []
    for line, length in enumerate(lengths):
        rows.extend([(line, piece) for piece in wrapped(widths, length) or [[]]])
    return rows


def state(made):
    return made.current_widths(), made.line_lengths(), made.log(), len(made)


class DocumentCase(unittest.TestCase):

    def check_refused(self, made, error, method, *arguments):
        """Check that a call raises the error and changes nothing."""
        before = state(made)
        with self.assertRaises(error, msg=(method, arguments)) as caught:
            getattr(made, method)(*arguments)
        self.assertEqual(state(made), before, (method, arguments))
        return caught.exception


class CreationTest(DocumentCase):
    """Points 2 and 20."""

    def test_examples(self):
        made = Document([8, 5, 3])
        made.add_line(0, 12)
        made.add_line(0, 0)
        self.assertEqual(
            [made.line_lengths(), made.rows(), made.locate(3), made.row_of(1, 9)], [[0, 12], 6, (1, 5), 4])
        made = Document([5, 3])
        made.add_width(0, 10)
        self.assertEqual([made == Document([5, 3]), len(made), made.log()], [True, 1, [('add_width', 0, 10)]])

    def test_without_arguments(self):
        made = Document()
        self.assertEqual(state(made), ([], [], [], 0))
        self.assertEqual(made.rows(), 0)

    def test_lists_and_tuples(self):
        for widths in EXAMPLES + WIDE_LISTS:
            for given in (widths, tuple(widths)):
                self.assertEqual(state(Document(given)), (widths, [], [], 0))
        self.assertIsInstance(Document((5, 3)).current_widths(), list)

    def test_by_name(self):
        self.assertEqual(Document(widths=[5, 3]).current_widths(), [5, 3])
        made = Document()
        made.add_width(width=9, index=0)
        made.add_line(length=7, index=0)
        made.set_length(length=20, index=0)
        self.assertEqual([made.locate(row=1), made.row_of(position=9, line=0)], [(0, 9), 1])
        made.remove_width(index=0)
        made.remove_line(index=0)
        self.assertEqual(made.log(), [
            ('add_width', 0, 9), ('add_line', 0, 7), ('set_length', 0, 20), ('remove_width', 0), ('remove_line', 0)])

    def test_wrong_widths(self):
        for widths in NOT_WIDTHS:
            if not isinstance(widths, tuple):
                with self.assertRaises(InvalidWidths, msg=repr(widths)):
                    Document(widths)
        for widths in ((0,), (5, 0), (True,), (5, '3'), (10001,), ((5,),), ([5],), (None,), (5, -3)):
            with self.assertRaises(InvalidWidths, msg=repr(widths)):
                Document(widths)

    def test_the_argument_is_copied(self):
        widths = [8, 5, 3]
        made = document(widths, [12])
        widths.append(1)
        widths[0] = 2
        self.assertEqual(made.current_widths(), [8, 5, 3])
        self.assertEqual(made.rows(), 5)
        made.add_width(0, 9)
        made.remove_width(1)
        self.assertEqual(widths, [2, 5, 3, 1])

    def test_documents_are_independent(self):
        first = Document()
        second = Document()
        first.add_line(0, 5)
        first.add_width(0, 2)
        self.assertEqual(state(second), ([], [], [], 0))


class OperationsTest(DocumentCase):
    """Point 20: the methods that change a document."""

    def test_add_line(self):
        made = Document()
        for index, length in ((0, 5), (0, 7), (2, 9), (1, 0), (4, GREATEST)):
            self.assertIsNone(made.add_line(index, length))
        self.assertEqual(made.line_lengths(), [7, 0, 5, 9, GREATEST])
        self.assertEqual(made.log(), [
            ('add_line', 0, 5), ('add_line', 0, 7), ('add_line', 2, 9), ('add_line', 1, 0), ('add_line', 4, GREATEST)])

    def test_set_length(self):
        made = document([3], [5, 6, 7])
        self.assertIsNone(made.set_length(1, 0))
        self.assertIsNone(made.set_length(2, GREATEST))
        self.assertIsNone(made.set_length(0, 5))
        self.assertEqual(made.line_lengths(), [5, 0, GREATEST])
        self.assertEqual(made.log()[3:], [('set_length', 1, 0), ('set_length', 2, GREATEST), ('set_length', 0, 5)])

    def test_remove_line(self):
        made = document([3], [5, 6, 7])
        self.assertIsNone(made.remove_line(1))
        self.assertEqual(made.line_lengths(), [5, 7])
        self.assertIsNone(made.remove_line(1))
        self.assertIsNone(made.remove_line(0))
        self.assertEqual(made.line_lengths(), [])
        self.assertEqual(made.log()[3:], [('remove_line', 1), ('remove_line', 1), ('remove_line', 0)])

    def test_add_width(self):
        made = Document([5, 3])
        for index, width in ((0, 10000), (3, 1), (2, 4)):
            self.assertIsNone(made.add_width(index, width))
        self.assertEqual(made.current_widths(), [10000, 5, 4, 3, 1])
        self.assertEqual(made.log(), [('add_width', 0, 10000), ('add_width', 3, 1), ('add_width', 2, 4)])

    def test_remove_width(self):
        made = Document([10, 8, 5])
        self.assertIsNone(made.remove_width(1))
        self.assertEqual(made.current_widths(), [10, 5])
        self.assertIsNone(made.remove_width(1))
        self.assertIsNone(made.remove_width(0))
        self.assertEqual(made.current_widths(), [])
        self.assertEqual(made.log(), [('remove_width', 1), ('remove_width', 1), ('remove_width', 0)])

    def test_indices_of_lines(self):
        for lengths in ([], [4], [4, 0, 9]):
            made = document([3], lengths)
            for index in NOT_INTEGERS + [-1, len(lengths) + 1, GREATEST]:
                self.check_refused(made, InvalidIndex, 'add_line', index, 5)
            for index in NOT_INTEGERS + [-1, len(lengths), GREATEST]:
                self.check_refused(made, InvalidIndex, 'set_length', index, 5)
                self.check_refused(made, InvalidIndex, 'remove_line', index)

    def test_indices_of_widths(self):
        for widths in ([], [4], [4, 1, 9]):
            made = document(widths, [5] * 10)
            for index in NOT_INTEGERS + [-1, len(widths) + 1, GREATEST]:
                self.check_refused(made, InvalidIndex, 'add_width', index, 5)
            for index in NOT_INTEGERS + [-1, len(widths), GREATEST]:
                self.check_refused(made, InvalidIndex, 'remove_width', index)

    def test_wrong_lengths_and_widths(self):
        made = document([5, 3], [4, 9])
        for length in NOT_LENGTHS:
            self.check_refused(made, InvalidLength, 'add_line', 2, length)
            self.check_refused(made, InvalidLength, 'set_length', 1, length)
        for width in NOT_A_WIDTH:
            self.check_refused(made, InvalidWidths, 'add_width', 2, width)

    def test_at_most_400_lines(self):
        made = document([3], [7] * 399)
        made.add_line(399, 0)
        for index in (0, 200, 400):
            error = self.check_refused(made, TooMany, 'add_line', index, 5)
            self.assertEqual(error.count, 401)
        made.set_length(399, GREATEST)
        self.assertEqual(made.rows(), 399 * 3 + GREATEST // 3 + 1)
        made.remove_line(0)
        made.add_line(399, 8)
        self.assertEqual(len(made.line_lengths()), 400)

    def test_at_most_20_widths(self):
        made = Document(TWENTY)
        for index in (0, 7, 20):
            self.check_refused(made, InvalidWidths, 'add_width', index, 5)
        made.remove_width(0)
        made.add_width(19, 5)
        self.assertEqual(made.current_widths(), TWENTY[1:] + [5])
        self.check_refused(made, InvalidWidths, 'add_width', 20, 4)
        self.check_refused(Document(TWENTY + [2]), InvalidWidths, 'add_width', 0, 5)

    def test_order_of_the_checks(self):
        full = document(TWENTY, [1] * 400)
        self.check_refused(full, InvalidIndex, 'add_line', 401, -1)
        self.check_refused(full, InvalidIndex, 'add_line', True, 5)
        self.check_refused(full, InvalidLength, 'add_line', 400, GREATEST + 1)
        self.check_refused(full, TooMany, 'add_line', 400, GREATEST)
        self.check_refused(full, InvalidIndex, 'set_length', 400, None)
        self.check_refused(full, InvalidIndex, 'add_width', 21, 0)
        self.check_refused(full, InvalidIndex, 'add_width', None, 5)
        self.check_refused(full, InvalidIndex, 'row_of', 400, 5)
        self.check_refused(full, InvalidIndex, 'row_of', -1, None)


class UndoTest(DocumentCase):
    """Point 20: `undo`."""

    def test_each_operation(self):
        operations = [
            ('add_line', 1, 8), ('set_length', 0, 8), ('remove_line', 1), ('add_width', 1, 4), ('remove_width', 0)]
        made = document([7, 3], [5, 6])
        for name, *arguments in operations:
            before = state(made)
            getattr(made, name)(*arguments)
            self.assertNotEqual(state(made), before)
            self.assertIsNone(made.undo())
            self.assertEqual(state(made), before, name)

    def test_an_operation_without_an_effect(self):
        made = document([3], [5])
        made.set_length(0, 5)
        self.assertEqual(len(made), 2)
        made.undo()
        self.assertEqual(state(made), ([3], [5], [('add_line', 0, 5)], 1))

    def test_down_to_the_empty_log_and_once_more(self):
        made = Document([8, 5, 3])
        made.add_line(0, 12)
        made.add_width(0, 9)
        made.remove_line(0)
        for left in (2, 1, 0):
            made.undo()
            self.assertEqual(len(made), left)
        self.assertEqual(state(made), ([8, 5, 3], [], [], 0))
        for _ in range(2):
            self.check_refused(made, NothingToUndo, 'undo')
        made.add_line(0, 4)
        made.undo()
        self.check_refused(made, NothingToUndo, 'undo')

    def test_nothing_to_undo_at_first(self):
        self.check_refused(Document(), NothingToUndo, 'undo')
        self.check_refused(Document([5, 3]), NothingToUndo, 'undo')

    def test_undo_is_not_logged(self):
        made = document([], [4, 5])
        made.undo()
        made.undo()
        made.add_width(0, 2)
        self.assertEqual(made.log(), [('add_width', 0, 2)])

    def test_refused_calls_are_not_undone(self):
        made = document([3], [4])
        self.check_refused(made, InvalidLength, 'set_length', 0, -1)
        self.check_refused(made, InvalidIndex, 'remove_width', 1)
        made.undo()
        self.assertEqual(state(made), ([3], [], [], 0))

    def test_400_lines_and_back(self):
        made = Document()
        for at in range(400):
            made.add_line(at // 2, at)
        self.check_refused(made, TooMany, 'add_line', 0, 0)
        for at in range(100):
            made.undo()
        again = Document()
        for at in range(300):
            again.add_line(at // 2, at)
        self.assertEqual(state(made), state(again))


class RowsTest(DocumentCase):
    """Point 20: `rows`, `locate` and `row_of`."""

    def check_rows(self, widths, lengths):
        made = document(widths, lengths)
        expected = rows_by_rule(widths, lengths)
        self.assertEqual(made.rows(), len(expected), (widths, lengths))
        for row, (line, piece) in enumerate(expected):
            first = piece[0] if piece else 0
            found = made.locate(row)
            self.assertIsInstance(found, tuple)
            self.assertEqual(found, (line, first), (widths, lengths, row))
            for position in piece:
                self.assertEqual(made.row_of(line, position), row, (widths, lengths, line, position))
        self.check_refused(made, InvalidIndex, 'locate', len(expected))
        for line, length in enumerate(lengths):
            self.check_refused(made, InvalidPosition, 'row_of', line, length)

    def test_examples(self):
        for widths in EXAMPLES:
            for lengths in ([], [0], [12], [0, 12], [12, 0], [0, 0, 0], [30, 1, 0, 7, 0], [1, 2, 3, 4, 5]):
                self.check_rows(widths, lengths)

    def test_random_documents(self):
        chance = random.Random(20)
        for widths in random_lists(201, 40, 30, 6) + [[], TWENTY]:
            self.check_rows(widths, [chance.choice([0, 1, chance.randint(0, 60)]) for _ in range(8)])

    def test_very_long_lines(self):
        made = document([7, 5, 3], [GREATEST, 0, GREATEST])
        rows = 428571428571428571428571428572
        self.assertEqual(made.rows(), 2 * rows + 1)
        self.assertEqual(made.locate(rows - 1), (0, made.locate(2 * rows)[1]))
        self.assertEqual(made.locate(rows), (1, 0))
        self.assertEqual(made.locate(rows + 1), (2, 0))
        self.assertEqual(made.row_of(0, GREATEST - 1), rows - 1)
        self.assertEqual(made.row_of(2, 0), rows + 1)
        self.assertEqual(made.row_of(2, GREATEST - 1), 2 * rows)
        self.check_refused(made, InvalidIndex, 'locate', 2 * rows + 1)
        self.check_refused(made, InvalidPosition, 'row_of', 0, GREATEST)
        self.check_refused(made, InvalidPosition, 'row_of', 1, 0)

    def test_lines_of_single_characters(self):
        made = document([1], [GREATEST, GREATEST])
        self.assertEqual(made.rows(), 2 * GREATEST)
        self.assertEqual(made.locate(GREATEST - 1), (0, GREATEST - 1))
        self.assertEqual(made.locate(2 * GREATEST - 1), (1, GREATEST - 1))
        self.assertEqual(made.row_of(1, GREATEST - 1), 2 * GREATEST - 1)

    def test_rows_far_off(self):
        chance = random.Random(202)
        for widths in WIDE_LISTS + random_lists(203, 20, 10000, 20):
            made = document(widths, [GREATEST] * 3)
            for _ in range(20):
                line = chance.randrange(3)
                position = chance.randrange(GREATEST)
                row = made.row_of(line, position)
                start = position
                for width in widths:
                    start %= width
                self.assertEqual(made.locate(row), (line, position - start), (widths, position))

    def test_400_lines_and_20_widths(self):
        lengths = [at * 7 for at in range(400)]
        made = document(TWENTY, lengths)
        starts = [computed_columns(TWENTY, length).count(0) or 1 for length in lengths]
        self.assertEqual(made.rows(), sum(starts))
        for line in (0, 1, 200, 399):
            self.assertEqual(made.locate(sum(starts[:line])), (line, 0))
        for line in (1, 200, 399):
            self.assertEqual(made.row_of(line, 0), sum(starts[:line]))
            self.assertEqual(made.row_of(line, lengths[line] - 1), sum(starts[:line + 1]) - 1)

    def test_without_widths_each_line_is_a_row(self):
        made = document([], [GREATEST, 0, 5])
        self.assertEqual(made.rows(), 3)
        self.assertEqual([made.locate(row) for row in range(3)], [(0, 0), (1, 0), (2, 0)])
        self.assertEqual([made.row_of(0, GREATEST - 1), made.row_of(2, 4)], [0, 2])

    def test_without_lines(self):
        for widths in ([], [5, 3]):
            made = Document(widths)
            self.assertEqual(made.rows(), 0)
            self.check_refused(made, InvalidIndex, 'locate', 0)
            self.check_refused(made, InvalidIndex, 'row_of', 0, 0)

    def test_wrong_rows_lines_and_positions(self):
        made = document([5, 3], [12, 0])
        for wrong in NOT_INTEGERS + [-1, -GREATEST, 10 ** 40]:
            self.check_refused(made, InvalidIndex, 'locate', wrong)
            self.check_refused(made, InvalidIndex, 'row_of', wrong, 0)
            self.check_refused(made, InvalidPosition, 'row_of', 0, wrong)
            self.check_refused(made, InvalidPosition, 'row_of', 1, wrong)
        self.check_refused(made, InvalidIndex, 'row_of', 2, 0)

    def test_rows_follow_the_operations(self):
        made = document([8, 5, 3], [12])
        self.assertEqual(made.rows(), 5)
        made.remove_width(0)
        self.assertEqual([made.rows(), made.locate(4)], [5, (0, 10)])
        made.set_length(0, 4)
        self.assertEqual(made.rows(), 2)
        made.add_width(2, 1)
        self.assertEqual(made.rows(), 4)
        made.undo()
        made.undo()
        made.undo()
        self.assertEqual([made.rows(), made.locate(4)], [5, (0, 11)])


class CloneTest(DocumentCase):
    """Point 20: `clone`."""

    def test_state(self):
        made = document([8, 5, 3], [12, 0])
        made.remove_width(1)
        twin = made.clone()
        self.assertIsInstance(twin, Document)
        self.assertIsNot(twin, made)
        self.assertEqual(state(twin), state(made))
        self.assertEqual(twin, made)

    def test_the_clone_does_not_follow(self):
        made = document([8, 5, 3], [12, 0])
        twin = made.clone()
        before = state(twin)
        made.add_line(0, 9)
        made.set_length(1, 9)
        made.add_width(0, 9)
        self.assertEqual(state(twin), before)
        for _ in range(5):
            made.undo()
        self.assertEqual(state(made), ([8, 5, 3], [], [], 0))
        self.assertEqual(state(twin), before)

    def test_the_original_does_not_follow(self):
        made = document([8, 5, 3], [12, 0])
        before = state(made)
        twin = made.clone()
        twin.undo()
        twin.undo()
        twin.add_width(3, 1)
        twin.add_line(0, 7)
        self.assertEqual(state(made), before)
        self.assertEqual(state(twin), ([8, 5, 3, 1], [7], [('add_width', 3, 1), ('add_line', 0, 7)], 2))

    def test_a_clone_can_undo_all(self):
        made = document([8, 5, 3], [12, 0])
        made.remove_width(1)
        made.remove_line(0)
        twin = made.clone().clone()
        states = []
        while len(twin):
            twin.undo()
            states.append(state(twin))
            made.undo()
            self.assertEqual(states[-1], state(made))
        self.assertEqual(states[-1], ([8, 5, 3], [], [], 0))
        self.check_refused(twin, NothingToUndo, 'undo')

    def test_of_a_new_document(self):
        twin = Document((5, 3)).clone()
        self.assertEqual(state(twin), ([5, 3], [], [], 0))
        self.check_refused(twin, NothingToUndo, 'undo')


class EqualityTest(DocumentCase):
    """Point 20: `==` and `len`."""

    def test_widths_equal_in_effect(self):
        for widths, other, equal in [
            ([], [], True), ([10, 8, 5, 3], [5, 3], True), ([6, 3, 4], [3], True), ([8, 5, 3], [5, 3], False),
            ([], [10000], False), ([7], [7, 7, 9], True), ([5, 3], [3, 5], False), ([10000, 9999], [9999], False),
        ]:
            for lengths in ([], [0], [12, 0, GREATEST]):
                left = document(widths, lengths)
                right = document(other, lengths)
                self.assertIs(left == right, equal, (widths, other))
                self.assertIs(right == left, equal, (widths, other))
                self.assertIs(left != right, not equal, (widths, other))

    def test_lines(self):
        lists = [[], [0], [0, 0], [5], [5, 6], [6, 5], [11], [GREATEST], [GREATEST - 1]]
        for lengths in lists:
            for others in lists:
                equal = document([5, 3], lengths) == document([5, 3], others)
                self.assertIs(equal, lengths == others, (lengths, others))

    def test_the_log_does_not_matter(self):
        left = document([8, 5], [7])
        left.remove_width(0)
        left.set_length(0, 9)
        right = document([5], [9])
        self.assertEqual([len(left), len(right)], [3, 1])
        self.assertTrue(left == right)
        left.undo()
        self.assertFalse(left == right)

    def test_other_values(self):
        for made in (Document(), Document([5, 3]), document([5, 3], [4])):
            for other in [None, 0, 1, True, False, '', [], (), [5, 3], (5, 3), {}, object(), Document, made.log()]:
                self.assertIs(made == other, False)
                self.assertIs(other == made, False)
                self.assertIs(made != other, True)

    def test_itself(self):
        made = document([5, 3], [4])
        self.assertTrue(made == made)

    def test_len_is_the_number_of_operations(self):
        made = Document([5, 3])
        self.assertEqual(len(made), 0)
        made.add_line(0, 5)
        made.add_width(0, 9)
        made.remove_line(0)
        self.assertEqual(len(made), 3)
        made.undo()
        self.assertEqual(len(made), 2)


class ListsTest(DocumentCase):
    """Point 2: the lists of a document are new."""

    def test_lists_belong_to_the_caller(self):
        made = document([5, 3], [4, 9])
        before = state(made)
        for name in ('current_widths', 'line_lengths', 'log'):
            found = getattr(made, name)()
            self.assertIsInstance(found, list)
            found.append(1)
            found[0] = 1
            self.assertEqual(state(made), before, name)
            self.assertIsNot(getattr(made, name)(), getattr(made, name)())

    def test_log_has_tuples(self):
        made = document([5, 3], [4])
        made.remove_line(0)
        made.add_line(0, 12)
        made.remove_width(1)
        self.assertEqual(
            made.log(), [('add_line', 0, 4), ('remove_line', 0), ('add_line', 0, 12), ('remove_width', 1)])
        for operation in made.log():
            self.assertIsInstance(operation, tuple)

    def test_lists_that_were_returned_do_not_change(self):
        made = document([5, 3], [4])
        found = state(made)
        made.add_line(0, 1)
        made.set_length(1, 1)
        made.add_width(0, 1)
        made.remove_width(0)
        self.assertEqual(found, ([5, 3], [4], [('add_line', 0, 4)], 1))


class ManyCallsTest(DocumentCase):
    """Point 20: long runs, beside plain lists and a stack of earlier ones."""

    def apply(self, chance, made, widths, lengths):
        """Apply a random operation to the document and to the lists; return whether there was one."""
        name = chance.choice(['add_line', 'add_line', 'set_length', 'remove_line', 'add_width', 'remove_width'])
        length = chance.choice([0, 1, chance.randint(0, 50), chance.randint(0, GREATEST), GREATEST])
        if name == 'add_line':
            index = chance.randint(0, len(lengths))
            lengths.insert(index, length)
            made.add_line(index, length)
        elif name == 'add_width' and len(widths) < 20:
            index = chance.randint(0, len(widths))
            width = chance.randint(1, 10000)
            widths.insert(index, width)
            made.add_width(index, width)
        elif name == 'set_length' and lengths:
            index = chance.randrange(len(lengths))
            lengths[index] = length
            made.set_length(index, length)
        elif name == 'remove_line' and lengths:
            made.remove_line(index := chance.randrange(len(lengths)))
            del lengths[index]
        elif name == 'remove_width' and widths:
            made.remove_width(index := chance.randrange(len(widths)))
            del widths[index]
        else:
            return False
        return True

    def test_500_calls(self):
        for seed in range(6):
            chance = random.Random(seed)
            made = Document([8, 5, 3])
            widths, lengths, past = [8, 5, 3], [], []
            for _ in range(500):
                if past and chance.random() < 0.3:
                    widths, lengths = past.pop()
                    made.undo()
                else:
                    before = list(widths), list(lengths)
                    if self.apply(chance, made, widths, lengths):
                        past.append(before)
                self.assertEqual((made.current_widths(), made.line_lengths()), (widths, lengths))
                self.assertEqual((len(made), len(made.log())), (len(past), len(past)))
            while past:
                made.undo()
                self.assertEqual((made.current_widths(), made.line_lengths()), past.pop())
            self.check_refused(made, NothingToUndo, 'undo')

    def test_the_log_can_be_run_again(self):
        chance = random.Random(204)
        made = Document([8, 5, 3])
        widths, lengths = [8, 5, 3], []
        for _ in range(300):
            self.apply(chance, made, widths, lengths)
        again = Document([8, 5, 3])
        for name, *arguments in made.log():
            getattr(again, name)(*arguments)
        self.assertEqual(state(again), state(made))
