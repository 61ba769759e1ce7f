import doctest
import pathlib
import unittest

README = pathlib.Path(__file__).resolve().parent.parent / 'README.md'


class Readme(unittest.TestCase):
    def test_examples(self):
        text = '\n'.join('' if line.startswith('```') else line for line in README.read_text().split('\n'))
        examples = doctest.DocTestParser().get_doctest(text, {}, 'README.md', 'README.md', 0)
        self.assertGreater(len(examples.examples), 5)
        told = []
        runner = doctest.DocTestRunner(verbose=False)
        runner.run(examples, out=told.append)
        self.assertEqual(runner.failures, 0, ''.join(told))


if __name__ == '__main__':
    unittest.main()
