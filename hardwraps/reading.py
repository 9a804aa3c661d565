"""Lists of widths that are read from the pieces of broken lines."""

from hardwraps.checks import is_integer_in
from hardwraps.errors import Conflict, InvalidIndex, InvalidPieces, NotFitting, NotWrapped
from hardwraps.forms import descent_of
from hardwraps.periods import least_periods
from hardwraps.wrapping import check_widths

MOST_PIECES = 400
MOST_CHARACTERS = 10000
MOST_LINES = 40


def is_pieces(value):
    """Return whether the value is a list of the lengths of the pieces of one line."""
    if not isinstance(value, list) or not 1 <= len(value) <= MOST_PIECES:
        return False
    return all([is_integer_in(size, 1, MOST_CHARACTERS) for size in value]) and sum(value) <= MOST_CHARACTERS


def check_pieces(value):
    """Raise InvalidPieces if the value is not a list of pieces."""
    if not is_pieces(value):
        raise InvalidPieces("pieces are 1 to 400 integers from 1 on with a sum of at most 10000")


def piece_columns(pieces):
    """Return the columns of all characters of the pieces."""
    return [at for size in pieces for at in range(size)]


def first_obstacle(pieces):
    """Return the least number of first characters that no list of widths breaks so, or None."""
    check_pieces(pieces)
    # The descent of the first n columns ends at a number of columns without a
    # smaller period. Some list gives these pieces if that is not beyond the
    # first piece. So the first such number beyond it is the first obstacle.
    periods = least_periods(piece_columns(pieces))
    for length in range(pieces[0] + 1, len(periods)):
        if periods[length] == length:
            return length
    return None


def shortest_widths(pieces):
    """Return a shortest list of widths that gives the pieces."""
    position = first_obstacle(pieces)
    if position is not None:
        raise NotWrapped(position)
    return descent_of(piece_columns(pieces))


def _smaller_periods(periods, length):
    """Return the ascending list of the periods up to the length that are less than it."""
    found = []
    # As many first columns are equal to the last ones: the most, then fewer.
    border = length - periods[length]
    while border > 0:
        found.append(length - border)
        border -= periods[border]
    return found


def _fitting(pieces):
    """Return the dicts `choices` and `counts`, with the ends of all pieces as keys.

    A list with the first width w fits the line up to an end if w is a smaller
    period up to this end, and the rest of the list fits the line up to w. Each
    such w is the end of a piece. `choices` has these w in ascending order,
    `counts` the number of the lists.
    """
    periods = least_periods(piece_columns(pieces))
    end = pieces[0]
    choices = {end: []}
    # No widths fit a single piece, and any width less than it would break it.
    counts = {end: 1}
    for size in pieces[1:]:
        end += size
        choices[end] = _smaller_periods(periods, end)
        counts[end] = sum([counts[width] for width in choices[end]])
    return choices, counts


def count_lists(pieces):
    """Return the number of lists that fit the pieces."""
    check_pieces(pieces)
    _, counts = _fitting(pieces)
    return counts[sum(pieces)]


def nth_list(pieces, index):
    """Return the list with this index among those that fit the pieces, in ascending order."""
    check_pieces(pieces)
    choices, counts = _fitting(pieces)
    end = sum(pieces)
    if not is_integer_in(index, 0, counts[end] - 1):
        raise InvalidIndex("no list that fits the pieces has this index")
    found = []
    left = index
    while choices[end]:
        end, left = _choose(choices[end], counts, left)
        found.append(end)
    return found


def _choose(choices, counts, index):
    """Return the first width of the list with this index, and its index among those with this width."""
    at = 0
    left = index
    while left >= counts[choices[at]]:
        left -= counts[choices[at]]
        at += 1
    return choices[at], left


def list_index(pieces, widths):
    """Return the index of a list among those that fit the pieces, in ascending order."""
    check_pieces(pieces)
    check_widths(widths)
    choices, counts = _fitting(pieces)
    end = sum(pieces)
    found = 0
    for width in widths:
        if width not in choices[end]:
            raise NotFitting("the list does not fit the pieces")
        found += sum([counts[less] for less in choices[end] if less < width])
        end = width
    if end != pieces[0]:
        raise NotFitting("the list does not break all pieces")
    return found


def shortest_for_lines(lines):
    """Return a shortest list of widths that gives the pieces of every line."""
    _check_lines(lines)
    _check_agreement([piece_columns(pieces) for pieces in lines])
    # Of several longest lines `max` returns the first one.
    return shortest_widths(max(lines, key=sum))


def _check_lines(value):
    if not isinstance(value, list) or not 1 <= len(value) <= MOST_LINES:
        raise InvalidPieces("lines are a list of 1 to 40 lists of pieces")
    for pieces in value:
        check_pieces(pieces)


def _check_agreement(rows):
    """Raise Conflict for the first two of several lists of columns that disagree."""
    for first in range(len(rows)):
        for second in range(first + 1, len(rows)):
            shared = min(len(rows[first]), len(rows[second]))
            if rows[first][:shared] != rows[second][:shared]:
                raise Conflict(first, second)
