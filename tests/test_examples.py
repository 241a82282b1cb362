"""The examples of the document hold word for word."""

import doctest
import unittest

from tests import examples


class Examples(unittest.TestCase):
    def run_example(self, text, many):
        # What is shown of one example ends where the next one begins; an empty line in it has to be marked.
        marked = "\n".join(line or "<BLANKLINE>" for line in text.strip("\n").split("\n")) + "\n"
        test = doctest.DocTestParser().get_doctest(marked, {}, "example", None, 0)
        told = []
        result = doctest.DocTestRunner(verbose=False).run(test, out=told.append)
        self.assertEqual((result.failed, result.attempted), (0, many), "".join(told))

    def test_point_14(self):
        self.run_example(examples.POINT_14, 11)

    def test_point_17(self):
        self.run_example(examples.POINT_17, 14)

    def test_point_19(self):
        self.run_example(examples.POINT_19, 14)

    def test_point_22(self):
        self.run_example(examples.POINT_22, 16)

    def test_point_25(self):
        self.run_example(examples.POINT_25, 17)

    def test_point_27(self):
        self.run_example(examples.POINT_27, 11)

    def test_point_29(self):
        self.run_example(examples.POINT_29, 13)

    def test_point_32(self):
        self.run_example(examples.POINT_32, 14)

    def test_point_34(self):
        self.run_example(examples.POINT_34, 10)

    def test_point_35(self):
        self.run_example(examples.POINT_35, 12)

    def test_point_36(self):
        self.run_example(examples.POINT_36, 8)


if __name__ == "__main__":
    unittest.main()
