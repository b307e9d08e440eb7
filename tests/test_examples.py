"""The examples of the document and of README.md, as they are written there."""

import doctest
import unittest


class Examples(unittest.TestCase):

    def check(self, name):
        failed, tried = doctest.testfile(name)
        self.assertEqual(failed, 0)
        self.assertGreater(tried, 0)

    def test_the_examples_of_the_document(self):
        self.check("examples.txt")

    def test_the_examples_of_the_readme(self):
        self.check("../README.md")


if __name__ == "__main__":
    unittest.main()
