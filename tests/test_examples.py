"""The examples of the document, as they stand in examples.txt, one behind each blank line."""

import ast
import pathlib
import unittest

from wendleaf.errors import Refused

EXAMPLES = (pathlib.Path(__file__).resolve().parent / "examples.txt").read_text(encoding="utf-8").strip().split("\n\n")
PROMPT = ">>> "


def outcome_of(statement, names):
    """What the statement's value or error looks like in an example."""
    try:
        tree = ast.parse(statement)
        if isinstance(tree.body[0], ast.Expr):
            return eval(statement, names)
        exec(statement, names)
    except Refused as error:
        return error
    return None


class Examples(unittest.TestCase):
    def compare(self, found, expected, statement):
        if expected.startswith("raises "):
            name, _, what = expected.removeprefix("raises ").partition("(")
            self.assertEqual(found.__class__.__name__, name, statement)
            if what:
                self.assertEqual(found.what, ast.literal_eval(what[:-1]), statement)
        else:
            self.assertEqual(found, ast.literal_eval(expected), statement)

    def test_each_example(self):
        compared = 0
        for example in EXAMPLES:
            names, lines = {}, example.split("\n")
            for line, behind in zip(lines, lines[1:] + [PROMPT]):
                if not line.startswith(PROMPT):
                    continue
                found = outcome_of(line.removeprefix(PROMPT), names)
                if behind.startswith(PROMPT):
                    self.assertNotIsInstance(found, Refused, example)
                else:
                    self.compare(found, behind, example)
                    compared += 1
        self.assertGreater(compared, 45)


if __name__ == "__main__":
    unittest.main()
