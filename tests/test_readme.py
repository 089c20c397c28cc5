"""The examples of README.md give what stands below them."""

import doctest
import pathlib
import unittest

README = pathlib.Path(__file__).resolve().parent.parent / "README.md"


class Examples(unittest.TestCase):
    def test_they_give_what_stands_below_them(self):
        # An empty line ends what an example gives; the fence behind it would be taken for a part of it.
        text = README.read_text(encoding="utf-8").replace("\n```\n", "\n\n")
        examples = doctest.DocTestParser().get_doctest(text, {}, "README.md", "README.md", 0)
        told = []
        result = doctest.DocTestRunner().run(examples, out=told.append)
        self.assertGreater(result.attempted, 5)
        self.assertEqual(result.failed, 0, "".join(told))


if __name__ == "__main__":
    unittest.main()
