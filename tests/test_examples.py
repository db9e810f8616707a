"""Tests of the examples that the document prints, and of what README.md shows."""

import doctest
import pathlib
import unittest

FOLDER = pathlib.Path(__file__).resolve().parent


class ExamplesTest(unittest.TestCase):

    def test_document(self):
        failed, tried = doctest.testfile(str(FOLDER / "examples.txt"), module_relative=False)
        self.assertEqual((failed, tried), (0, 65))

    def test_readme(self):
        failed, tried = doctest.testfile(str(FOLDER.parent / "README.md"), module_relative=False)
        self.assertGreater(tried, 40)
        self.assertEqual(failed, 0)


if __name__ == "__main__":
    unittest.main()
