"""The examples of README.md, as they stand there."""

import doctest
import os
import unittest

from helpers import ROOT


class Readme(unittest.TestCase):
    def test_examples(self):
        found = doctest.testfile(os.path.join(ROOT, "README.md"), module_relative=False)
        self.assertEqual(found.failed, 0)
        self.assertGreater(found.attempted, 30)
