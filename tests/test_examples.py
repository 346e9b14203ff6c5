"""The examples of the document, as it prints them."""

import importlib
import os
import unittest

MODULES = ["errors", "ratios", "rows", "letters", "words", "terms", "formulas", "programs", "forms", "nests", "flat",
           "leastnest", "blocks", "free", "brackets", "lines", "table", "levels", "shallow", "fewest", "newones",
           "equations", "slopes", "starts", "back", "passes", "machine", "code", "papers", "texts", "board", "desk"]
EXAMPLES = os.path.join(os.path.dirname(os.path.abspath(__file__)), "examples.txt")


def examples():
    """The triples (section, source, list of the lines printed), in order."""
    found = []
    section = None
    with open(EXAMPLES, encoding="utf-8") as lines:
        for line in lines.read().splitlines():
            if line.startswith("## "):
                section = line
            elif line.startswith(">>> "):
                found.append((section, line[4:], []))
            elif line:
                found[-1][2].append(line)
    return found


def outcome(source, names):
    """What the example prints, as a list of lines."""
    try:
        code = compile(source, "<example>", "eval")
    except SyntaxError:
        exec(source, names)
        return []
    try:
        value = eval(code, names)
    except Exception as error:
        told = ", ".join(f"{name}={worth!r}" for name, worth in vars(error).items())
        return [f"raises {type(error).__name__}({told})"]
    return [] if value is None else [repr(value)]


class Examples(unittest.TestCase):
    def test_all(self):
        names = {}
        for module_name in MODULES:
            module = importlib.import_module("loopsbeside." + module_name)
            for name, value in vars(module).items():
                if getattr(value, "__module__", None) == module.__name__ and not name.startswith("_"):
                    names[name] = value
        found = examples()
        self.assertEqual(len(found), 226)
        for section, source, printed in found:
            with self.subTest(section=section, source=source):
                self.assertEqual(outcome(source, names), printed)
