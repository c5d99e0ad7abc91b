"""The files of the package keep to the rules of the language that can be seen from outside."""

import os
import unittest

from tests.language import faults_of, own_names

TOP = os.path.dirname(os.path.dirname(os.path.abspath(__file__)))
PACKAGE = os.path.join(TOP, "sayloom")

BROKEN = {
    "L2": ["import os\n", "from os import path\n", "from .boards import FAULT\n", "from sayloom.boards import *\n",
           "A = 1\nfrom sayloom.boards import FAULT\n", "from itertools import cycle\n"],
    "L3": ["print\n", "for k in (1, 2):\n    pass\n", "A, B = 0, 1\n"],
    "L4": ["def f(xs=[]):\n    return xs\n"],
    "L6": ["def f():\n    try:\n        f()\n    except:\n        pass\n", "async def f():\n    return 1\n",
           "def f(x):\n    try:\n        f(x)\n    finally:\n        f(x)\n",
           "def f(x):\n    try:\n        f(x)\n    finally:\n        return x\n",
           "def f(x):\n    try:\n        f(x)\n    finally:\n        x.append(x[0])\n"],
    "L7": ["A = 1.5\n", "def f(x):\n    return x / 2\n", "def f(xs):\n    return any(x for x in xs)\n",
           "def f(xs):\n    return f(*xs[0])\n"],
    "L8": ["def f(x):\n    return hash(x)\n", "def f(x):\n    return float(x)\n"],
    "L10": ["A = '" + "a" * 120 + "'\n", "def f():\n" + "    f()\n" * 40, "A = 1\n" * 400, "def f():\n\tpass\n"],
    "L14": ["A = '\u00e9'\n"],
    "L15": ["A = 1\nA = 2\n", "def f(hash):\n    return 1\n", "def f():\n    min = 1\n    return min\n",
            "from sayloom.boards import reach\ndef f(reach):\n    return reach\n",
            "class Box:\n    pass\ndef f():\n    Box = 1\n    return Box\n"],
    "L17": ["def f(open):\n    return 1\n"],
    "L18": ["def f(box):\n    box.inner.low = 1\n", "class Box:\n    def __init__(self):\n        self.low = 1\n    def low(self):\n        return 1\n"],
    "L26": ["class Box:\n    def __init__(self):\n        self.keys = []\n"],
    "L19": ["def f(g):\n    try:\n        g()\n    except Exception:\n        pass\n"],
    "L20": ["def f(x):\n    return x is x.y\n"],
    "L24": ["def f():\n    for k in {1, 2}:\n        f()\n", "def f(x):\n    a, b = set(x), set(x)\n    return a == b\n",
            "def f(x):\n    a = set(x)\n    a = set(x)\n    return len(a)\n", "def f(x):\n    return set(x)\n",
            "def f(x):\n    a = set(x)\n    return [b for b in a]\n", "def f(x):\n    a = set(x)\n    return a\n"],
    "L25": ["def f(x):\n    return x.popitem()\n", "def f(x):\n    x.sort_keys()\n"],
    "L27": ["A = 'a%'\n"],
}


def files():
    found = {}
    for folder, _, names in os.walk(PACKAGE):
        for name in names:
            if "__pycache__" not in folder:
                with open(os.path.join(folder, name), encoding="utf-8") as file:
                    found[os.path.relpath(os.path.join(folder, name), PACKAGE)] = file.read()
    return found


class TestLanguage(unittest.TestCase):
    def test_the_package_is_one_folder_of_python_files(self):
        names = list(files())
        self.assertIn("__init__.py", names)
        for name in names:
            self.assertRegex(name, r"\A[a-z_][a-z0-9_]*\.py\Z")

    def test_each_file_keeps_to_the_rules(self):
        own = set().union(*(own_names(source) for source in files().values()))
        for name, source in files().items():
            with self.subTest(name=name):
                self.assertEqual(faults_of(source, own), [])

    def test_a_broken_rule_is_seen(self):
        for rule, sources in BROKEN.items():
            for source in sources:
                with self.subTest(source=source[:60]):
                    self.assertIn(rule, [told for _, told in faults_of(source)])

    def test_no_two_files_import_from_each_other(self):
        imports = {}
        for name, source in files().items():
            lines = [line for line in source.split("\n") if line.startswith("from sayloom.")]
            imports[name] = {line.split()[1].partition(".")[2].replace(".", "/") + ".py" for line in lines}
        while imports:
            free = [name for name, others in imports.items() if not others & set(imports)]
            self.assertTrue(free, imports)
            for name in free:
                del imports[name]


if __name__ == "__main__":
    unittest.main()
