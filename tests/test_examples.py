"""The examples of the document hold word for word."""

import doctest
import unittest

from tests import examples


class Examples(unittest.TestCase):
    def run_example(self, text, many):
        test = doctest.DocTestParser().get_doctest(text, {}, "example", None, 0)
        told = []
        result = doctest.DocTestRunner(verbose=False).run(test, out=told.append)
        self.assertEqual((result.failed, result.attempted), (0, many), "".join(told))

    def test_point_14(self):
        self.run_example(examples.POINT_14, 11)

    def test_point_17(self):
        self.run_example(examples.POINT_17, 14)

    def test_point_19(self):
        self.run_example(examples.POINT_19, 14)

    def test_point_22(self):
        self.run_example(examples.POINT_22, 16)

    def test_point_25(self):
        self.run_example(examples.POINT_25, 17)

    def test_point_27(self):
        self.run_example(examples.POINT_27, 11)


if __name__ == "__main__":
    unittest.main()
