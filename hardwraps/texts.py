"""Texts of several lines: wrapping them, and reading widths from two of them."""

from hardwraps.errors import InvalidText, NoWidths
from hardwraps.forms import descent_of
from hardwraps.reading import piece_columns
from hardwraps.wrapping import check_widths, first_columns, is_widths


def wrap_text(widths, text):
    """Return the text after the programs have run."""
    check_widths(widths)
    _check_text(text)
    lines = text.split('\n')
    # The columns do not depend on the length of a line, so one list serves all lines.
    columns = first_columns(widths, max([len(line) for line in lines]))
    return '\n'.join([row for line in lines for row in _rows(line, columns)])


def _check_text(value):
    if not isinstance(value, str):
        raise InvalidText("a text is a string")


def _rows(line, columns):
    # Position 0 is always a break; so an empty line is one empty row.
    starts = [0] + [at for at in range(1, len(line)) if columns[at] == 0]
    ends = starts[1:] + [len(line)]
    return [line[start:end] for start, end in zip(starts, ends)]


def widths_between(before, after):
    """Return widths for which `wrap_text` turns the text `before` into `after`."""
    _check_text(before)
    _check_text(after)
    pieces = _pieces_of_longest(before.split('\n'), after.split('\n'))
    found = descent_of(piece_columns(pieces)) if pieces else []
    # If any widths turn one text into the other, these do, as they have the
    # same effect up to the length of the longest line. So one trial tells.
    if not is_widths(found) or wrap_text(found, before) != after:
        raise NoWidths("no widths turn the one text into the other")
    return found


def _pieces_of_longest(before, after):
    """Return the lengths of the lines of `after` in which the longest line of `before` stands.

    Breaks are no characters of a line, so these are the lines behind as many
    characters as the lines before it have together.
    """
    sizes = [len(line) for line in before]
    longest = max(sizes)
    start = sum(sizes[:sizes.index(longest)])
    pieces = []
    passed = 0
    for line in after:
        if line and start <= passed < start + longest:
            pieces.append(len(line))
        passed += len(line)
    return pieces
