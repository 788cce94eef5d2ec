"""Checks that operators and properties change nothing but what they created."""

import ast
import unittest
from pathlib import Path

PACKAGE = Path(__file__).resolve().parent.parent / "stepsvanish"

# Methods that may change something; all others that are defined are operators.
FREE = ("__init__", "__call__", "__iter__")

CHANGING = ("append clear extend insert pop remove reverse setdefault update sort add discard").split()


def calls(node):
    """The names of the functions, methods and classes that are called."""
    for part in ast.walk(node):
        if isinstance(part, ast.Call):
            if isinstance(part.func, ast.Name):
                yield part.func.id
            elif isinstance(part.func, ast.Attribute):
                yield part.func.attr


def is_new(value):
    """True if the expression surely creates a list, a dict or a set."""
    if isinstance(value, (ast.List, ast.Dict, ast.ListComp, ast.DictComp)):
        return True
    if isinstance(value, ast.Call) and isinstance(value.func, ast.Name):
        return value.func.id in ("list", "dict", "set", "sorted")
    return False


def created(node):
    """The local names that are only ever assigned what the function created."""
    kept, other = set(), {part.arg for part in ast.walk(node) if isinstance(part, ast.arg)}
    for part in ast.walk(node):
        if isinstance(part, ast.Assign):
            for target in part.targets:
                if isinstance(target, ast.Name) and is_new(part.value):
                    kept.add(target.id)
                else:
                    other |= {x.id for x in ast.walk(target) if stored(x)}
        elif isinstance(part, (ast.For, ast.comprehension)):
            other |= {x.id for x in ast.walk(part.target) if stored(x)}
    return kept - other


def stored(node):
    return isinstance(node, ast.Name) and isinstance(node.ctx, ast.Store)


def changes(node):
    """The rows in which a function changes what it may not have created."""
    own = created(node)
    if node.name == "__init__":
        own.add(node.args.args[0].arg)
    for part in ast.walk(node):
        changed = None
        if isinstance(part, (ast.Subscript, ast.Attribute)):
            if isinstance(part.ctx, (ast.Store, ast.Del)):
                changed = part.value
        elif isinstance(part, ast.Call) and isinstance(part.func, ast.Attribute):
            if part.func.attr in CHANGING:
                changed = part.func.value
        elif isinstance(part, ast.AugAssign):
            changed = part.target
        if changed is not None and not (isinstance(changed, ast.Name) and changed.id in own):
            yield part.lineno


def faults(texts):
    """The names and rows of all that operators and properties change, also by calls."""
    functions, waiting = {}, []
    for text in texts:
        for node in ast.walk(ast.parse(text)):
            if isinstance(node, ast.FunctionDef):
                functions.setdefault(node.name, []).append(node)
                decorators = [ast.unparse(part) for part in node.decorator_list]
                if (node.name[:2] == "__" and node.name not in FREE) or "property" in decorators:
                    waiting.append(node.name)
            elif isinstance(node, ast.ClassDef):
                inits = [part for part in node.body if getattr(part, "name", "") == "__init__"]
                functions.setdefault(node.name, []).extend(inits)
    seen, found = set(), []
    while waiting:
        name = waiting.pop()
        if name in seen or name not in functions:
            continue
        seen.add(name)
        for node in functions[name]:
            found += [(name, row) for row in changes(node)]
            waiting += list(calls(node))
    return found


class OperatorsTest(unittest.TestCase):
    def test_the_package(self):
        texts = [path.read_text(encoding="utf-8") for path in sorted(PACKAGE.glob("*.py"))]
        self.assertEqual(faults(texts), [])

    def test_what_the_check_finds(self):
        for body, right in [
            ("rows = [0] * 3\n    rows[0] = 1", False),
            ("rows = [0 for _ in other]\n    rows[0] = 1", True),
            ("rows = []\n    rows.append(1)", True),
            ("rows = other.rows\n    rows.append(1)", False),
            ("other.rows = 1", False),
            ("other[0] = 1", False),
            ("rows = list(other)\n    rows = other\n    rows[0] = 1", False),
            ("rows = sorted(other)\n    rows.sort()", True),
            ("rows = 1\n    rows += other", False),
        ]:
            text = (
                "class A:\n  def __mul__(self, other):\n    return inner(other)\n"
                f"def inner(other):\n    {body}\n    return rows\n"
            )
            self.assertEqual(faults([text]) == [], right, body)


if __name__ == "__main__":
    unittest.main()
