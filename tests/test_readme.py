"""README.md: what its examples say they tell is what they tell."""

import ast
import pathlib
import re
import unittest

README = pathlib.Path(__file__).resolve().parent.parent / "README.md"


def told_in(remark):
    """The value that a remark begins with, up to a colon or a comma behind it, in a list; else no value."""
    for end in [len(remark)] + [place for place, sign in enumerate(remark) if sign in ":,"][::-1]:
        try:
            return [ast.literal_eval(remark[:end].strip())]
        except (SyntaxError, ValueError):
            continue
    return []


class ReadmeTest(unittest.TestCase):
    def test_the_examples(self):
        seen = 0
        for code in re.findall(r"```python\n(.*?)```", README.read_text("utf-8"), re.S):
            rows = code.splitlines()
            names = {}
            for node in ast.parse(code).body:
                if not isinstance(node, ast.Expr):
                    exec(compile(ast.Module([node], []), "README.md", "exec"), names)
                    continue
                told = eval(compile(ast.Expression(node.value), "README.md", "eval"), names)
                expected = told_in(rows[node.end_lineno - 1].partition("# ")[2])
                if expected:
                    self.assertEqual(told, expected[0], rows[node.end_lineno - 1])
                    seen += 1
        self.assertGreater(seen, 20)


if __name__ == "__main__":
    unittest.main()
