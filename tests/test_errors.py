import unittest

from hardwraps import errors

PLAIN = [
    'InvalidWidths', 'InvalidPosition', 'InvalidLength', 'InvalidIndex', 'InvalidPeriod',
    'InvalidPieces', 'InvalidText', 'InvalidCommand', 'NotFitting', 'NoWidths', 'NothingToUndo',
]
WITH_ATTRIBUTES = ['TooMany', 'NotWrapped', 'Conflict', 'ParseError']


class ErrorsTest(unittest.TestCase):
    """Point 24."""

    def test_base_class(self):
        self.assertEqual(errors.WrapError.__bases__, (ValueError,))
        self.assertEqual(str(errors.WrapError('why')), 'why')

    def test_each_class_is_derived_directly(self):
        for name in PLAIN + WITH_ATTRIBUTES:
            self.assertEqual(getattr(errors, name).__bases__, (errors.WrapError,), name)
            self.assertEqual(getattr(errors, name).__module__, 'hardwraps.errors', name)

    def test_there_are_no_other_classes(self):
        names = [name for name in vars(errors) if not name.startswith('_')]
        self.assertEqual(sorted(names), sorted(['WrapError'] + PLAIN + WITH_ATTRIBUTES))

    def test_one_message(self):
        for name in PLAIN:
            with self.assertRaises(errors.WrapError) as caught:
                raise getattr(errors, name)('what is wrong')
            self.assertEqual(str(caught.exception), 'what is wrong', name)
            self.assertEqual(caught.exception.args, ('what is wrong',), name)

    def test_too_many(self):
        self.assertEqual(errors.TooMany(401).count, 401)
        self.assertEqual(errors.TooMany(count=10 ** 30).count, 10 ** 30)

    def test_not_wrapped(self):
        self.assertEqual(errors.NotWrapped(5).position, 5)
        self.assertEqual(errors.NotWrapped(position=0).position, 0)

    def test_conflict(self):
        self.assertEqual((errors.Conflict(1, 3).first, errors.Conflict(1, 3).second), (1, 3))
        by_name = errors.Conflict(second=3, first=1)
        self.assertEqual((by_name.first, by_name.second), (1, 3))

    def test_parse_error(self):
        self.assertIsNone(errors.ParseError().index)
        self.assertIsNone(errors.ParseError(None).index)
        self.assertEqual(errors.ParseError(0).index, 0)
        self.assertEqual(errors.ParseError(index=7).index, 7)

    def test_parameters_are_required(self):
        for call in (errors.TooMany, errors.NotWrapped, errors.Conflict, lambda: errors.Conflict(1)):
            self.assertRaises(TypeError, call)

    def test_messages_are_strings(self):
        for error in (errors.TooMany(4), errors.NotWrapped(4), errors.Conflict(1, 2), errors.ParseError()):
            self.assertNotEqual(str(error), '')
