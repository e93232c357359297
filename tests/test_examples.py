"""The examples that the document gives, as they stand there."""

import doctest
import os
import unittest


class Examples(unittest.TestCase):
    def examples_hold(self, name, many):
        path = os.path.join(os.path.dirname(os.path.abspath(__file__)), name)
        told = doctest.testfile(path, module_relative=False)
        self.assertEqual((told.failed, told.attempted), (0, many))

    def test_section_4(self):
        self.examples_hold("section_4.txt", 6)

    def test_section_5(self):
        self.examples_hold("section_5.txt", 12)

    def test_section_6(self):
        self.examples_hold("section_6.txt", 13)

    def test_section_7(self):
        self.examples_hold("section_7.txt", 13)

    def test_section_8(self):
        self.examples_hold("section_8.txt", 11)

    def test_section_9(self):
        self.examples_hold("section_9.txt", 11)

    def test_section_10(self):
        self.examples_hold("section_10.txt", 17)

    def test_section_11(self):
        self.examples_hold("section_11.txt", 8)

    def test_section_12(self):
        self.examples_hold("section_12.txt", 10)

    def test_section_13(self):
        self.examples_hold("section_13.txt", 8)

    def test_section_14(self):
        self.examples_hold("section_14.txt", 8)

    def test_section_15(self):
        self.examples_hold("section_15.txt", 6)

    def test_section_16(self):
        self.examples_hold("section_16.txt", 6)

    def test_readme(self):
        self.examples_hold(os.path.join(os.pardir, "README.md"), 44)


if __name__ == "__main__":
    unittest.main()
