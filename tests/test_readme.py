import doctest
import unittest
from pathlib import Path

README = Path(__file__).resolve().parent.parent / "README.md"


class ReadmeTest(unittest.TestCase):
    def test_examples(self):
        # A closing fence would otherwise count as expected output.
        text = README.read_text().replace("```", "")
        examples = doctest.DocTestParser().get_doctest(text, {}, "README.md", str(README), 0)
        self.assertGreater(len(examples.examples), 0)
        runner = doctest.DocTestRunner()
        runner.run(examples)
        self.assertEqual(runner.summarize().failed, 0)


if __name__ == "__main__":
    unittest.main()
