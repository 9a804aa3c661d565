"""A console that carries out commands."""

from hardwraps.checks import GREATEST
from hardwraps.counting import count_pieces, nth_break
from hardwraps.errors import InvalidCommand
from hardwraps.forms import first_difference, normal_form
from hardwraps.notation import format_widths, number_to, parse_pieces, parse_widths
from hardwraps.reading import shortest_widths
from hardwraps.wrapping import column

# The first word of each command, and how many words the command has.
FORMS = {
    'widths': 2, 'show': 1, 'normal': 1, 'column': 2, 'count': 2, 'break': 2, 'compare': 2, 'read': 2,
}


class Console:
    """Widths, and the commands that replace them and ask about them."""

    def __init__(self):
        self._widths = []

    def execute(self, command):
        """Carry out a command and return its answer."""
        words = _words(command)
        if words[0] == 'widths':
            self._widths = parse_widths(words[1])
            return 'ok'
        if words[0] == 'read':
            self._widths = shortest_widths(parse_pieces(words[1]))
            return format_widths(self._widths)
        return _answer(self._widths, words)


def _words(command):
    """Return the words of a command."""
    if not isinstance(command, str):
        raise InvalidCommand("a command is a string")
    # Unlike `split` without an argument this keeps the empty words.
    words = command.split(' ')
    if words[0] not in FORMS or len(words) != FORMS[words[0]]:
        raise InvalidCommand("no command has these words")
    return words


def _answer(widths, words):
    """Return the answer of a command that does not replace the widths."""
    if words[0] == 'show':
        return format_widths(widths)
    if words[0] == 'normal':
        return format_widths(normal_form(widths))
    if words[0] == 'compare':
        position = first_difference(widths, parse_widths(words[1]))
        return 'equal' if position is None else str(position)
    return str(_number_answer(widths, words[0], _number(words[1])))


def _number(word):
    number = number_to(word, GREATEST)
    if number is None:
        raise InvalidCommand("this word is an integer from 0 to 10 ** 30 in decimal digits")
    return number


def _number_answer(widths, name, number):
    """Return the answer of a command whose second word is a number."""
    if name == 'column':
        return column(widths, number)
    if name == 'count':
        return count_pieces(widths, number)
    return nth_break(widths, number)
