"""orderforms.errors, and orderforms/__init__.py."""

import ast
import inspect
import unittest

import helper
import orderforms
from orderforms import errors
from orderforms.errors import Fault, Malformed, NoText, Refused


class ErrorsTest(unittest.TestCase):
    def test_classes_are_defined_in_their_file(self):
        tree = ast.parse((helper.PACKAGE / "errors.py").read_text())
        defined = [node.name for node in tree.body if isinstance(node, ast.ClassDef)]
        for name in ("Fault", "Malformed", "Refused", "NoText"):
            self.assertEqual(defined.count(name), 1)
            self.assertTrue(inspect.isclass(getattr(errors, name)))

    def test_fault_is_the_base_class(self):
        self.assertTrue(issubclass(Fault, ValueError))
        for error in (Malformed, Refused, NoText):
            self.assertTrue(issubclass(error, Fault))
            self.assertIsNot(error, Fault)

    def test_none_of_the_three_is_a_subclass_of_another_one(self):
        three = (Malformed, Refused, NoText)
        for one in three:
            for two in three:
                self.assertEqual(issubclass(one, two), one is two)

    def test_attributes(self):
        self.assertEqual(Refused("large").reason, "large")
        self.assertEqual(Refused("cycle").reason, "cycle")
        self.assertEqual(NoText(0).at, 0)
        self.assertEqual(NoText(17).at, 17)
        self.assertEqual(str(inspect.signature(Refused)), "(reason)")
        self.assertEqual(str(inspect.signature(NoText)), "(at)")

    def test_errors_can_be_raised_and_caught_as_fault(self):
        for error in (Malformed("word"), Refused("word"), NoText(3)):
            with self.assertRaises(Fault) as caught:
                raise error
            self.assertIs(caught.exception, error)

    def test_the_package_defines_nothing(self):
        tree = ast.parse((helper.PACKAGE / "__init__.py").read_text())
        rest = [node for node in tree.body if not isinstance(node, ast.Expr)]
        self.assertEqual(rest, [])
        self.assertTrue(orderforms.__file__.endswith("__init__.py"))


if __name__ == "__main__":
    unittest.main()
