"""The examples of the document, result for result."""

import doctest
import os
import unittest

EXAMPLES = os.path.join(os.path.dirname(os.path.abspath(__file__)), "examples.txt")


class Examples(unittest.TestCase):
    def test_each_example(self):
        failed, tried = doctest.testfile(EXAMPLES, module_relative=False)
        self.assertEqual(failed, 0)
        self.assertEqual(tried, 49)


if __name__ == "__main__":
    unittest.main()
