"""The examples of README.md."""

import doctest
import unittest
from pathlib import Path

README = Path(__file__).resolve().parent.parent / "README.md"


class Examples(unittest.TestCase):
    def test_examples(self):
        # the fences around the examples are no part of what they print
        text = README.read_text().replace("```", "")
        examples = doctest.DocTestParser().get_doctest(text, {}, "README.md", str(README), 0)
        self.assertGreater(len(examples.examples), 40)
        reports = []
        found = doctest.DocTestRunner().run(examples, out=reports.append)
        self.assertEqual((found.failed, "".join(reports)), (0, ""))


if __name__ == "__main__":
    unittest.main()
