"""README.md: what it shows is so."""

import doctest
import pathlib
import unittest

README = pathlib.Path(__file__).parent.parent / "README.md"


class ReadmeTest(unittest.TestCase):
    def test_examples(self):
        text = "\n".join("" if line.startswith("```") else line for line in README.read_text().split("\n"))
        examples = doctest.DocTestParser().get_doctest(text, {}, "README.md", "README.md", 0)
        self.assertGreater(len(examples.examples), 5)
        failed, _ = doctest.DocTestRunner().run(examples)
        self.assertEqual(failed, 0)

    def test_all_modules_are_told(self):
        text = README.read_text()
        for path in sorted((README.parent / "braidwords").glob("*.py")):
            if path.name != "__init__.py":
                self.assertIn(f"`braidwords.{path.stem}`", text)


if __name__ == "__main__":
    unittest.main()
