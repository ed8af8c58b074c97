"""The package keeps to its part of Python."""

import pathlib
import unittest

from tests.language import finds_of

PACKAGE = pathlib.Path(__file__).resolve().parent.parent / "tastegrove"


class Language(unittest.TestCase):
    def test_each_file_keeps_to_it(self):
        sources = {file.name: file.read_text() for file in PACKAGE.glob("*.py")}
        self.assertIn("__init__.py", sources)
        self.assertEqual(finds_of("tastegrove", sources), [])

    def test_nothing_else_lies_in_the_folder(self):
        for path in PACKAGE.iterdir():
            if path.name != "__pycache__":
                self.assertRegex(path.name, r"^(__init__|[a-z][a-z0-9_]*)\.py$")

    def test_no_two_files_draw_from_one_another(self):
        drawn = {file.stem: [row.split()[1].split(".")[1] for row in file.read_text().split("\n")
                             if row.startswith("from tastegrove.")] for file in PACKAGE.glob("*.py")}
        while drawn:
            free = [name for name in drawn if not any(other in drawn for other in drawn[name])]
            self.assertNotEqual(free, [])
            drawn = {name: drawn[name] for name in drawn if name not in free}

    def test_the_look_finds_what_is_left_out(self):
        for source in ("import os\n", "x = [[1]]\n", "x = 1.5\n", "def f(*rest):\n    pass\n", "def f():\n    x = y = 1\n",
                       "def f(xs):\n    return {x for x in xs}\n", "def f(xs):\n    return set(xs)\n", "x = 'a%'\n",
                       "def f(xs):\n    for x in xs:\n        xs.append(x)\n", "def f(x):\n    return x / 2\n",
                       "def f(min):\n    return min\n", "def f(x):\n    return map(x)\n", "# a type\n", "_x = 1\n",
                       "def f(xs):\n    ys = reversed(xs)\n    return ys\n", "def f(x, y):\n    return x is y\n",
                       "class A:\n    x = 1\n", "def f(x):\n    with x:\n        pass\n", "f = 1\nf = 2\n",
                       "class A:\n    def f(self):\n        self.f = 1\n", "def f(x):\n    x.items = 1\n",
                       "class A:\n    def f(self):\n        pass\n\n\ndef g(x):\n    x.f = 1\n"):
            self.assertNotEqual(finds_of("tastegrove", {"x.py": source}), [], source)


if __name__ == "__main__":
    unittest.main()
