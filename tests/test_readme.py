import doctest
import pathlib
import unittest


class ReadmeTests(unittest.TestCase):
    def test_examples(self):
        path = pathlib.Path(__file__).resolve().parent.parent / "README.md"
        result = doctest.testfile(str(path), module_relative=False)
        self.assertEqual(0, result.failed)
        self.assertGreater(result.attempted, 9)


if __name__ == "__main__":
    unittest.main()
