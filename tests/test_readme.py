"""That README.md prints what the program answers."""

import pathlib
import unittest

from tests.support import PointCase

README = pathlib.Path(__file__).resolve().parent.parent / "README.md"


class Readme(PointCase):
    def test_examples(self):
        # The fences would be taken for what an example prints.
        text = README.read_text().replace("```", "")
        self.run_examples(text, text.count(">>> "))


if __name__ == "__main__":
    unittest.main()
