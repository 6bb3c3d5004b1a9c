"""The examples of the README."""

import doctest
import os
import unittest

README = os.path.join(os.path.dirname(os.path.dirname(os.path.abspath(__file__))), "README.md")


class Readme(unittest.TestCase):
    def test_examples(self):
        with open(README, encoding="utf-8") as file:
            # A line of three backticks ends an answer, as an empty line does.
            text = file.read().replace("```", "")
        test = doctest.DocTestParser().get_doctest(text, {}, "README.md", README, 0)
        self.assertGreater(len(test.examples), 5)
        report = []
        result = doctest.DocTestRunner(verbose=False).run(test, out=report.append)
        self.assertEqual(result.failed, 0, "".join(report))


if __name__ == "__main__":
    unittest.main()
