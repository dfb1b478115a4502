"""That the examples of README.md tell what it says."""

import doctest
import pathlib
import unittest

README = pathlib.Path(__file__).resolve().parent.parent / "README.md"


class ReadmeTest(unittest.TestCase):
    def test_examples(self):
        text = README.read_text().replace("```", "")
        runner = doctest.DocTestRunner(verbose=False)
        runner.run(doctest.DocTestParser().get_doctest(text, {}, "README.md", None, 0))
        self.assertGreater(runner.tries, 10)
        self.assertEqual(runner.failures, 0)


if __name__ == "__main__":
    unittest.main()
