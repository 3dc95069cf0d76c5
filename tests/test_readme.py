"""The examples of README.md."""

import doctest
import unittest
from pathlib import Path

README = Path(__file__).resolve().parent.parent / "README.md"


class ReadmeTest(unittest.TestCase):
    def test_examples(self):
        text = README.read_text("utf-8").replace("```", "")
        found = doctest.DocTestParser().get_doctest(text, {}, "README.md", str(README), 0)
        self.assertGreater(len(found.examples), 10)
        result = doctest.DocTestRunner(verbose=False).run(found)
        self.assertEqual(result.failed, 0)

    def test_every_file_of_the_package_is_told(self):
        text = README.read_text("utf-8")
        for path in (README.parent / "playhall").glob("*.py"):
            if path.name != "__init__.py":
                self.assertIn(f"`{path.name}`", text)


if __name__ == "__main__":
    unittest.main()
