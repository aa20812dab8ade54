"""The interface's names and arguments, and that the program reaches for nothing outside itself."""

import ast
import inspect
import pathlib
import unittest

from numberpile import hidden, leaves, models, piles, shares, slots, streams

PACKAGE = pathlib.Path(__file__).resolve().parent.parent / "numberpile"

ARGUMENTS = [
    (shares.whole, "(counts)"),
    (shares.first_of, "(counts, sign)"),
    (shares.sign_of, "(counts, slot)"),
    (piles.lay, "(pile, counts, sign)"),
    (piles.take, "(pile, counts)"),
    (piles.lay_row, "(pile, counts, row)"),
    (piles.take_row, "(pile, counts, many)"),
    (models.Plain, "(counts)"),
    (models.Learner, "(many, step=1)"),
    (models.Follower, "(many, step=1)"),
    (models.press, "(pile, model, row)"),
    (models.read, "(pile, model, many)"),
    (streams.Stream, "(counts, base, grain=4)"),
    (hidden.lay_hidden, "(pile, prior, given, back, sign)"),
    (hidden.take_hidden, "(pile, prior, given, back)"),
    (slots.Slots, "(counts)"),
    (leaves.packed, "(text)"),
    (leaves.unpacked, "(leaf)"),
]

METHODS = [
    (streams.Stream.lay_sign, "(self, sign)"),
    (streams.Stream.take_sign, "(self)"),
    (streams.Stream.told, "(self)"),
    (slots.Slots.dealt, "(self)"),
    (slots.Slots.raised, "(self, sign, number)"),
    (slots.Slots.lowered, "(self, number)"),
    (slots.Slots.laid, "(self, number, row)"),
    (slots.Slots.taken, "(self, number, bits, many)"),
]

# The names by which Python reaches files, the user, or code that is not written out.
OUTSIDE = ["open", "input", "print", "exec", "eval", "compile", "globals", "id", "hash"]


class TestArguments(unittest.TestCase):
    def test_functions_and_classes(self):
        for one, arguments in ARGUMENTS:
            with self.subTest(name=one.__name__):
                self.assertEqual(str(inspect.signature(one)), arguments)

    def test_methods_of_streams_and_slots(self):
        for method, arguments in METHODS:
            with self.subTest(name=method.__qualname__):
                self.assertEqual(str(inspect.signature(method)), arguments)

    def test_methods_of_models(self):
        for kind in [models.Plain, models.Learner, models.Follower]:
            with self.subTest(kind=kind):
                self.assertEqual(str(inspect.signature(kind.counts)), "(self)")
                self.assertEqual(str(inspect.signature(kind.see)), "(self, sign)")
                self.assertEqual(str(inspect.signature(kind.fresh)), "(self)")


class TestNothingOutside(unittest.TestCase):
    def trees(self):
        return [(path.name, ast.parse(path.read_text("ascii"))) for path in sorted(PACKAGE.glob("**/*.py"))]

    def test_only_its_own_modules_are_imported(self):
        for name, tree in self.trees():
            for node in ast.walk(tree):
                with self.subTest(file=name):
                    self.assertNotIsInstance(node, ast.Import)
                    if isinstance(node, ast.ImportFrom):
                        self.assertEqual(node.level, 0)
                        self.assertTrue(node.module.startswith("numberpile."))

    def test_no_name_that_reaches_outside(self):
        for name, tree in self.trees():
            for node in ast.walk(tree):
                if isinstance(node, ast.Name):
                    with self.subTest(file=name, line=node.lineno):
                        self.assertNotIn(node.id, OUTSIDE)
                        self.assertFalse(node.id.startswith("_"))


if __name__ == "__main__":
    unittest.main()
