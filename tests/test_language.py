import pathlib
import re
import unittest

import nightsoff
from tests.language import defined_in, file_faults, imports_in, methods_in

FOLDER = pathlib.Path(nightsoff.__file__).parent
FILES = {path.stem: path.read_text(encoding="utf-8") for path in sorted(FOLDER.glob("*.py"))}
METHODS = [name for text in FILES.values() for name in methods_in(text)]

WRONG = {
    "a float": "LOW = 0.5\n",
    "a percent sign": "def f():\n    return 'a%'\n",
    "a generator expression": "def f(xs):\n    return sum(x for x in xs)\n",
    "a foreign import": "from random import choice\n\n\ndef f(xs):\n    return choice(xs)\n",
    "a foreign name of the library": "from math import sqrt\n\n\ndef f(x):\n    return sqrt(x)\n",
    "an unused import": "from nightsoff.wants import Wants\n",
    "a late import": "LOW = 1\nfrom nightsoff.wants import Wants\nTOP = Wants\n",
    "a builtin's name": "def f(sum):\n    return sum\n",
    "an import's name": "from nightsoff.wants import Wants\n\n\ndef f(Wants):\n    return Wants\n",
    "a foreign builtin": "def f(x):\n    return print(x)\n",
    "a barred name": "def f(x):\n    x._record = 1\n",
    "a barred attribute": "def f(x):\n    x.items = 1\n",
    "a foreign method": "def f(x):\n    return x.sort()\n",
    "a division": "def f(x):\n    return x / 2\n",
    "an open exponent": "def f(x):\n    return 2 ** x\n",
    "a long line": "# " + "x" * 120 + "\n",
    "a sign": "# \u00e9\n",
    "a long function": "def f(x):\n" + "    x += 1\n" * 40,
    "a long file": "\n" * 400,
    "an unknown special method": "class A:\n    def __hash__(self):\n        return 1\n",
    "a loop at module level": "for _ in ():\n    pass\n",
    "a foreign error": "def f(xs):\n    try:\n        return xs[0]\n    except KeyError:\n        return 1\n",
    "any error": "def f(xs):\n    try:\n        return xs[0]\n    except:\n        return 1\n",
    "is": "def f(x, y):\n    return x is y\n",
}


class Language(unittest.TestCase):
    def test_every_file(self):
        self.assertIn("errors", FILES)
        for name, text in FILES.items():
            with self.subTest(name):
                self.assertEqual(file_faults(text, METHODS), [])

    def test_the_check_finds_faults(self):
        for name, text in WRONG.items():
            with self.subTest(name):
                self.assertNotEqual(file_faults(text, METHODS), [])

    def test_the_folder(self):
        names = [path.name for path in FOLDER.iterdir() if path.name != "__pycache__"]
        self.assertIn("__init__.py", names)
        for name in names:
            self.assertTrue(re.fullmatch(r"[a-z_][a-z0-9_]*\.py", name), name)

    def test_imports_name_the_defining_file(self):
        for name, text in FILES.items():
            for module, imported in imports_in(text):
                with self.subTest(f"{imported} in {name}"):
                    self.assertIn(imported, defined_in(FILES[module.split(".")[1]]))

    def test_no_two_files_import_each_other(self):
        needs = {name: {module.split(".")[1] for module, _ in imports_in(text)}
                 for name, text in FILES.items()}
        while needs:
            free = [name for name, others in needs.items() if not others & set(needs)]
            self.assertTrue(free, needs)
            for name in free:
                del needs[name]
