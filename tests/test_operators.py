"""What the operators of the package run changes nothing, calls nothing that it is handed, and does not yield."""

import unittest
from pathlib import Path

from tests.operators import Package, faults

PACKAGE = Path(__file__).resolve().parent.parent / "fieldmaps"

# A package whose operator changes only what it created, and is left in peace.
GOOD = """
class Bag:
    def __init__(self, rows):
        self.rows = tuple(rows)

    def __add__(self, other):
        return Bag(joined(self.rows, other.rows))

    def __len__(self):
        return len(self.rows)

    def put(self, row):
        self.rows = self.rows + (row,)

    def __call__(self, step):
        return step(self.rows)


def joined(rows, others):
    both = [row for row in rows]
    for row in others:
        both.append(row)
    both[0] = others[0]
    return both
"""

# Each has a fault in what its operator runs; the second part is a word of what is told of it.
BAD = (
    ("class A:\n    def __add__(self, other):\n        return other.field.add(1, 2)\n", "add"),
    ("class A:\n    def __add__(self, other):\n        self.rows.append(other)\n", "append"),
    ("class A:\n    def __len__(self):\n        self.rows.pop()\n        return 0\n", "pop"),
    ("class A:\n    def __eq__(self, other):\n        other.seen.discard(1)\n        return True\n", "discard"),
    ("class A:\n    def __str__(self):\n        rows = self.rows\n        rows.sort()\n        return ''\n", "sort"),
    ("class A:\n    def __neg__(self):\n        rows = []\n        rows = self.rows\n        rows.clear()\n", "clear"),
    ("class A:\n    def __neg__(self):\n        self.n = 1\n", "attribute"),
    ("class A:\n    def __mul__(self, other):\n        other.n += 1\n", "attribute"),
    ("class A:\n    def __mul__(self, other):\n        other.rows[0] = 1\n", "did not create"),
    ("class A:\n    def __mul__(self, other):\n        other[0] = 1\n", "item"),
    ("class A:\n    def __mul__(self, other):\n        del other[0]\n", "item"),
    ("class A:\n    def __mul__(self, other):\n        return other(1)\n", "calls other"),
    ("class A:\n    def __mul__(self, other):\n        return self.rows[0](1)\n", "holds"),
    ("class A:\n    def __mul__(self, other):\n        return other.step(1)\n", "no method"),
    ("class A:\n    def __mul__(self, other):\n        yield 1\n", "yields"),
    ("class A:\n    def __mod__(self, other):\n        return low(other)\n"
     "def low(bag):\n    return lower(bag)\ndef lower(bag):\n    return bag.field.add(1, 2)\n", "lower: calls add"),
    ("class A:\n    def __mod__(self, other):\n        return other.inverse()\n"
     "class B:\n    def inverse(self):\n        return list(self.members())\n"
     "    def members(self):\n        yield 1\n", "members: yields"),
    ("class A:\n    def __init__(self, rows):\n        rows.append(1)\n"
     "    def __mod__(self, other):\n        return A(other)\n", "__init__: calls append"),
)


def package_sources():
    return {path.stem: path.read_text(encoding="utf-8") for path in PACKAGE.glob("*.py")}


class TestOperators(unittest.TestCase):
    def test_of_the_package(self):
        self.assertEqual(faults(package_sources()), [])

    def test_all_operators_are_looked_at(self):
        found = {(owner, method.name) for _, owner, method in Package(package_sources()).operators()}
        for name in ("__add__", "__sub__", "__mul__", "__neg__", "__floordiv__", "__mod__", "__eq__", "__str__"):
            self.assertIn(("Poly", name), found)
        for owner in ("Field", "FieldMap", "Recurrence"):
            self.assertIn((owner, "__eq__"), found)
        for owner in ("Recurrence", "Console"):
            self.assertIn((owner, "__len__"), found)

    def test_what_is_created_may_be_changed(self):
        self.assertEqual(faults({"bags": GOOD}), [])

    def test_every_fault_is_found(self):
        for text, word in BAD:
            told = faults({"bags": text})
            self.assertEqual(len(told), 1, text)
            self.assertIn(word, told[0])

    def test_faults_are_found_in_other_files(self):
        first = "from fieldmaps.low import low\nclass A:\n    def __mod__(self, other):\n        return low(other)\n"
        second = "def low(bag):\n    bag.extend([1])\n"
        told = faults({"high": first, "low": second})
        self.assertEqual(len(told), 1)
        self.assertIn("low.py 2: low: calls extend", told[0])

    def test_a_method_written_later_counts_by_its_name(self):
        later = "class Later:\n    def negative(self, a):\n        self.rows.append(a)\n"
        told = faults({**package_sources(), "later": later})
        self.assertEqual(len(told), 1)
        self.assertIn("later.py 3: negative: calls append", told[0])


if __name__ == "__main__":
    unittest.main()
