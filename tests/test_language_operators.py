"""Rule L5 Operators of LANGUAGE.md over the package, and that the look at it sees what it is to see."""

import unittest

from operator_faults import operator_faults
from test_language import PACKAGE, files

BOX = """
class Box:
    def __init__(self, rows):
        self.rows = list(rows)
        self.index = 0

    @property
    def many(self):
        return len(self.rows)

    def told(self, x):
        {told}

    def __contains__(self, x):
        return self.told(x)


def first(rows, x):
    {first}
"""


def faults(told, first="return x"):
    return [wrong for _, _, wrong in operator_faults({"box.py": BOX.format(told=told, first=first)})]


class OperatorsTest(unittest.TestCase):

    def test_operators_and_properties_of_the_package(self):
        self.assertEqual(operator_faults({path.name: path.read_text() for path in files()}), [])

    def test_the_row_that_was_a_fault_is_seen(self):
        sources = {path.name: path.read_text() for path in files()}
        sources["fonts.py"] = sources["fonts.py"].replace("order.find(", "order.index(")
        seen = operator_faults(sources)
        self.assertEqual({(name, wrong) for name, _, wrong in seen}, {("fonts.py", "calls .index, which is held")})
        line = (PACKAGE / "fonts.py").read_text().split("\n")[seen[0][1] - 1]
        self.assertIn("order.find(", line)

    def test_calls_of_what_is_held(self):
        self.assertEqual(faults("return self.rows.index(x)"), ["calls .index, which is held"])
        self.assertEqual(faults("return first(self.rows, x)", "return rows.many(x)"), ["calls .many, which is held"])
        self.assertEqual(faults("return x()"), ["calls x"])
        self.assertEqual(faults("return self.rows[0](x)"), ["calls what it holds"])
        self.assertEqual(faults("return x.unknown()"), ["calls .unknown"])
        self.assertEqual(faults("return ''.join(self.rows).find(x) >= 0 and len(Box([])) == first([], 0)"), [])

    def test_changes(self):
        self.assertEqual(faults("self.rows = [x]"), ["assigns .rows"])
        self.assertEqual(faults("self.rows[0] = x"), ["assigns an item"])
        self.assertEqual(faults("del self.rows[0]"), ["assigns an item"])
        self.assertEqual(faults("self.rows.append(x)"), ["changes by .append"])
        self.assertEqual(faults("return first(self.rows, x)", "rows.pop(); return x"), ["changes by .pop"])
        self.assertEqual(faults("told = [x]; told.sort()"), ["changes by .sort"])
        self.assertEqual(faults("told = {k: 1 for k in x}; told[0] = 1"), ["assigns an item"])
        self.assertEqual(faults("told = []; told.append(x); told[0] = 1; k = 0; k += 1; return told"), [])

    def test_sums(self):
        self.assertEqual(faults("x += self.rows"), ["adds to what may be held"])
        self.assertEqual(faults("k = self.rows; k += [1]"), ["adds to what may be held"])
        self.assertEqual(faults("k = 0; k += x; told = []; told += x; x -= 1"), [])


if __name__ == "__main__":
    unittest.main()
