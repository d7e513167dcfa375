"""The examples of the document, where it lies beside the project."""

import builtins
import doctest
import pathlib
import unittest

DOCUMENT = pathlib.Path(__file__).resolve().parent.parent.parent / "shared" / "DOC.md"


class Document(unittest.TestCase):
    @unittest.skipUnless(DOCUMENT.exists(), "the document is not there")
    def test_examples(self):
        examples = doctest.DocTestParser().get_doctest(DOCUMENT.read_text(), {}, "DOC", str(DOCUMENT), 0)
        found = []
        results = doctest.DocTestRunner().run(examples, out=found.append)
        # What shows results keeps the last one among the builtins.
        vars(builtins).pop("_", None)
        self.assertEqual(results.failed, 0, "".join(found))
        self.assertGreater(results.attempted, 100)


if __name__ == "__main__":
    unittest.main()
