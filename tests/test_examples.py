"""All examples of the document, as they stand there: in examples.txt, with an empty line between two of them."""

import importlib
import pathlib
import pkgutil
import unittest

import hymnplates

EXAMPLES = pathlib.Path(__file__).resolve().parent / "examples.txt"


def names():
    """All names of the package, and the font that some examples take from the one before them."""
    known = {}
    for module in pkgutil.iter_modules(hymnplates.__path__):
        known.update(vars(importlib.import_module(f"hymnplates.{module.name}")))
    known["font"] = known["Font"]("0689", [("6", "9")])
    return known


def told(line, known):
    """What is shown for a line: nothing, a value, or an error."""
    try:
        code = compile(line, "example", "eval")
    except SyntaxError:
        code = compile(line, "example", "exec")
    try:
        value = eval(code, known)
    except Exception as error:
        fields = ", ".join(repr(field) for field in vars(error).values())
        return [f"raises {type(error).__name__}({fields})"]
    return [] if value is None else [repr(value)]


class ExamplesTest(unittest.TestCase):

    def test_examples(self):
        looked_at = 0
        for block in EXAMPLES.read_text().strip().split("\n\n"):
            known = names()
            for example in ("\n" + block).split("\n>>> ")[1:]:
                line, *shown = example.split("\n")
                with self.subTest(line):
                    self.assertEqual(told(line, known), shown)
                looked_at += 1
        self.assertEqual(looked_at, 91)


if __name__ == "__main__":
    unittest.main()
