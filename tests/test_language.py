"""The files of the package keep to the language; the checker finds what does not."""

import unittest

from tests.language import Checker, sources


class Language(unittest.TestCase):
    def test_files(self):
        for file in sources():
            self.assertRegex(file, r"^[a-z_][a-z0-9_]*\.py$")
        self.assertLessEqual(len(sources()), 100)

    def test_package(self):
        self.assertEqual(Checker(sources()).check(), [])

    def test_the_checker_finds(self):
        for text in ("import os\n", "from loadanywhere import a\n", "print(3)\n", "A = [[1]]\n", "A = 1\nA = 2\n",
                     "def f(x):\n    return x / 2\n", "def f(x):\n    return any(y for y in x)\n",
                     "def f(x):\n    return x is x\n", "def f(list):\n    return 1\n", "def f(x):\n    return 2 ** x\n",
                     "def f(x):\n    for y in x:\n        x.append(y)\n", "def f(x):\n    return {y for y in x}\n",
                     "def f(x):\n    y = zip(x, x)\n    return list(y)\n", "def f(x):\n    return x.format(1)\n",
                     "def f(x):\n    return '5%'\n", "def f(x):\n    raise x\n", "def f(x):\n    return x.nowhere\n",
                     "def f(x):\n    try:\n        return x()\n    except Exception:\n        return 1\n",
                     "class A:\n    def __init__(self):\n        self.b = 1\n    def b(self):\n        return 1\n",
                     "def f(x):\n" + "    x = 1\n" * 41, "def f(x):\n    return x + 1.5\n",
                     "class A:\n    def __eq__(self, other):\n        x = 1\n        return x\n"):
            self.assertNotEqual(Checker({"a.py": text}).check(), [], text)
