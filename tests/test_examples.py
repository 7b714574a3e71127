"""The examples of the document, result for result."""

import doctest
import os
import unittest

FOLDER = os.path.dirname(os.path.abspath(__file__))
EXAMPLES = os.path.join(FOLDER, "examples.txt")
README = os.path.join(os.path.dirname(FOLDER), "README.md")


class Examples(unittest.TestCase):
    def test_each_example(self):
        failed, tried = doctest.testfile(EXAMPLES, module_relative=False)
        self.assertEqual(failed, 0)
        self.assertEqual(tried, 73)

    def test_how_to_use_the_program(self):
        failed, tried = doctest.testfile(README, module_relative=False)
        self.assertEqual(failed, 0)
        self.assertGreater(tried, 30)


if __name__ == "__main__":
    unittest.main()
