"""The examples of README.md."""

import doctest
import pathlib
import unittest

README = pathlib.Path(__file__).resolve().parent.parent / "README.md"


class Readme(unittest.TestCase):
    def test_examples(self):
        # The line that ends an example is no part of what it prints.
        text = README.read_text(encoding="utf-8").replace("```", "")
        test = doctest.DocTestParser().get_doctest(text, {}, "README.md", str(README), 0)
        self.assertGreater(len(test.examples), 20)
        self.assertEqual(doctest.DocTestRunner(verbose=False).run(test).failed, 0)


if __name__ == "__main__":
    unittest.main()
