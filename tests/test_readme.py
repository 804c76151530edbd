import doctest
import unittest


class ReadmeTest(unittest.TestCase):

    def test_examples(self):
        found = doctest.testfile("../README.md")
        self.assertGreater(found.attempted, 0)
        self.assertEqual(found.failed, 0)
