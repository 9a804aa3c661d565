"""Documents of lines and widths that change step by step."""

from hardwraps.checks import check_length, is_integer_in
from hardwraps.counting import nth_break, total_pieces
from hardwraps.errors import InvalidIndex, InvalidPosition, InvalidWidths, NothingToUndo, TooMany
from hardwraps.forms import are_equal
from hardwraps.wrapping import check_widths

MOST_LINES = 400
MOST_WIDTHS = 20


def _check_index(value, greatest):
    if not is_integer_in(value, 0, greatest):
        raise InvalidIndex("nothing in this document has this index")


class Document:
    """Widths and the lengths of lines, with a log of the operations that changed them."""

    def __init__(self, widths=()):
        given = list(widths) if isinstance(widths, (list, tuple)) else widths
        check_widths(given)
        # An operation puts new lists in the place of these two and changes
        # neither of them, so `undo` can take back the ones from before.
        self._widths = given
        self._lengths = []
        self._log = []
        self._past = []

    def _change(self, operation, widths, lengths):
        self._log.append(operation)
        self._past.append((self._widths, self._lengths))
        self._widths = widths
        self._lengths = lengths

    def add_line(self, index, length):
        """Insert a line before the line at the index, or at the end."""
        _check_index(index, len(self._lengths))
        check_length(length)
        if len(self._lengths) >= MOST_LINES:
            raise TooMany(MOST_LINES + 1)
        lengths = self._lengths[:index] + [length] + self._lengths[index:]
        self._change(("add_line", index, length), self._widths, lengths)

    def set_length(self, index, length):
        """Change the length of the line at the index."""
        _check_index(index, len(self._lengths) - 1)
        check_length(length)
        lengths = self._lengths[:index] + [length] + self._lengths[index + 1:]
        self._change(("set_length", index, length), self._widths, lengths)

    def remove_line(self, index):
        """Remove the line at the index."""
        _check_index(index, len(self._lengths) - 1)
        lengths = self._lengths[:index] + self._lengths[index + 1:]
        self._change(("remove_line", index), self._widths, lengths)

    def add_width(self, index, width):
        """Insert a width before the width at the index, or at the end."""
        _check_index(index, len(self._widths))
        check_widths([width])
        if len(self._widths) >= MOST_WIDTHS:
            raise InvalidWidths("a document has at most 20 widths")
        widths = self._widths[:index] + [width] + self._widths[index:]
        self._change(("add_width", index, width), widths, self._lengths)

    def remove_width(self, index):
        """Remove the width at the index."""
        _check_index(index, len(self._widths) - 1)
        widths = self._widths[:index] + self._widths[index + 1:]
        self._change(("remove_width", index), widths, self._lengths)

    def undo(self):
        """Revert the last operation and remove it from the log."""
        if not self._log:
            raise NothingToUndo("the log is empty")
        self._log.pop()
        self._widths, self._lengths = self._past.pop()

    def current_widths(self):
        """Return the list of the widths."""
        return list(self._widths)

    def line_lengths(self):
        """Return the list of the lengths of all lines."""
        return list(self._lengths)

    def _rows_of_lines(self):
        # A line of length 0 has no pieces, but takes one row.
        return [max(1, total_pieces(self._widths, length)) for length in self._lengths]

    def rows(self):
        """Return the number of rows."""
        return sum(self._rows_of_lines())

    def locate(self, row):
        """Return the index of the line of a row, and the position of the row's first character."""
        counts = self._rows_of_lines()
        _check_index(row, sum(counts) - 1)
        line = 0
        left = row
        while left >= counts[line]:
            left -= counts[line]
            line += 1
        return line, nth_break(self._widths, left)

    def row_of(self, line, position):
        """Return the row of the character at a position of a line."""
        _check_index(line, len(self._lengths) - 1)
        if not is_integer_in(position, 0, self._lengths[line] - 1):
            raise InvalidPosition("the line has no character at this position")
        above = sum(self._rows_of_lines()[:line])
        # The pieces of the characters up to this one end with the piece of this one.
        return above + total_pieces(self._widths, position + 1) - 1

    def log(self):
        """Return the list of the operations."""
        return list(self._log)

    def clone(self):
        """Return an independent document with the same widths, lines and log."""
        twin = Document(self._widths)
        twin._lengths = list(self._lengths)
        twin._log = list(self._log)
        twin._past = list(self._past)
        return twin

    def __len__(self):
        return len(self._log)

    def __eq__(self, other):
        if not isinstance(other, Document):
            return False
        return self._lengths == other._lengths and are_equal(self._widths, other._widths)
