"""The examples of the document, word for word, all of them and one after another."""

import doctest
import pathlib
import unittest

HERE = pathlib.Path(__file__).resolve().parent
COPY = HERE / "examples.md"
DOCUMENT = HERE.parent.parent / "shared" / "DOC.md"


class Examples(unittest.TestCase):
    def test_each_says_what_it_says(self):
        failed, tried = doctest.testfile(str(COPY), module_relative=False)
        self.assertEqual(failed, 0)
        self.assertEqual(tried, 30)

    @unittest.skipUnless(DOCUMENT.exists(), "the document is not there")
    def test_they_are_those_of_the_document(self):
        found = [[(example.source, example.want) for example in doctest.DocTestParser().get_examples(path.read_text())]
                 for path in (COPY, DOCUMENT)]
        self.assertEqual(found[0], found[1])


if __name__ == "__main__":
    unittest.main()
