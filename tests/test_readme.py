"""The examples of README.md give what it shows."""

import doctest
import os
import subprocess
import sys
import unittest

README = os.path.join(os.path.dirname(os.path.dirname(os.path.abspath(__file__))), "README.md")


class TestReadme(unittest.TestCase):
    def test_examples(self):
        with open(README, encoding="utf-8") as held:
            text = held.read().replace("```", "")
        examples = doctest.DocTestParser().get_doctest(text, {}, "README.md", README, 0)
        found = doctest.DocTestRunner().run(examples)
        self.assertEqual(found.failed, 0)
        self.assertGreater(found.attempted, 5)

    def test_equal_calls_return_equal_values_in_every_process(self):
        """[2]: the order of the members of a set, which differs from process to process, shows nowhere."""
        here = os.path.dirname(os.path.abspath(__file__))
        paths = {"PYTHONPATH": os.path.dirname(here), "PYTHONDONTWRITEBYTECODE": "1"}
        words = [sys.executable, "-m", "unittest", "test_readme.TestReadme.test_examples"]
        for seed in ("0", "1", "2", "3"):
            found = subprocess.run(words, cwd=here, capture_output=True,
                                   env={**os.environ, **paths, "PYTHONHASHSEED": seed})
            self.assertEqual(found.returncode, 0, found.stderr)


if __name__ == "__main__":
    unittest.main()
