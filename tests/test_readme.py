import doctest
import pathlib
import unittest

README = pathlib.Path(__file__).resolve().parent.parent / 'README.md'


class ReadmeTest(unittest.TestCase):

    def test_examples(self):
        # Without the fences, which would be taken for results.
        text = README.read_text(encoding='utf-8').replace('\n```\n', '\n\n')
        found = doctest.DocTestParser().get_doctest(text, {}, 'README.md', str(README), 0)
        results = doctest.DocTestRunner().run(found)
        self.assertGreater(results.attempted, 40)
        self.assertEqual(results.failed, 0)
