"""The form of the code, as far as a script can test it."""

import tempfile
import unittest
from pathlib import Path

from tests.language import PACKAGE, all_faults, files

BAD_FILES = {
    "L2": "from os import sep\n",
    "L3": "x = [1]\nx.append(2)\n",
    "L7": "def half(n):\n    return n / 2\n",
    "L8": "def told(n):\n    return hash(n)\n",
    "L10": "def long(n):\n" + "    n += 1\n" * 40 + "    return n\n",
    "L14": "# \u00e4\n",
    "L15": "def told(sum):\n    return sum\n",
    "L20": "def told(n):\n    return n is 5\n",
    "L23": "def told(xs):\n    for x in xs:\n        xs.append(x)\n",
    "L24": "def told(xs):\n    return {x for x in xs}\n",
    "L25": "def told(xs):\n    return xs.format_map({})\n",
    "L27": "def told(a, b):\n    return a ** b\n",
}


class Language(unittest.TestCase):
    def test_the_package(self):
        self.assertGreater(len(files()), 5)
        self.assertEqual(all_faults(), [])

    def test_that_faults_are_found(self):
        for rule, source in BAD_FILES.items():
            with self.subTest(rule), tempfile.TemporaryDirectory() as folder:
                package = Path(folder) / PACKAGE
                package.mkdir()
                (package / "__init__.py").write_text('"""A package."""\n')
                (package / "bad.py").write_text('"""A file."""\n\n' + source, encoding="utf-8")
                self.assertTrue([fault for fault in all_faults(Path(folder)) if f" {rule}: " in fault])
