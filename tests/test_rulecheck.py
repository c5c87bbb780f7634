"""The check of the rules finds breaches, and lets through what keeps the rules."""

import os
import unittest

from rulecheck.check import breaches_of_folder, breaches_of_texts

ROOT = os.path.dirname(os.path.dirname(os.path.abspath(__file__)))

OTHER = '''"""Another file."""

TABLE = {"a": 1}
ROW = (1, 2)


class Wrong(ValueError):
    """A wrong."""

    def __init__(self, place):
        self.place = place


def doubled(n, by=2):
    """Twice n."""
    return n * by
'''

KEPT = '''"""A file that keeps the rules."""

from pack.other import TABLE, Wrong, doubled

LEAST = -1


def told(rows, *, most=3):
    """Some words."""
    seen = set()
    for at, row in enumerate(rows):
        if row in seen or at > most:
            raise Wrong(at)
        seen.add(row)
    first, *rest = sorted(set(rows))
    found = {name: doubled(n) for name, n in zip(rows, rest)}
    return (first, *rest, len(set(rows)), TABLE["a"], dict(TABLE), max([LEAST] + list(found.values())))


def caught(n):
    """A handler of an own error."""
    def again(k):
        return doubled(k, by=n)

    try:
        rows = (again(n),)
        return told((again(*rows),), most=1)
    except Wrong as error:
        return error.place
'''

# Each breach: the rule, and rows of a function (or of a module, if they do not begin with a blank).
BREACHES = [
    ("L2", "from .other import doubled\n"),
    ("L2", "def late():\n    from pack.other import doubled\n    return doubled(1)\n"),
    ("L16", "import os\n"),
    ("L16", "from pack.other import missing\n"),
    ("L16", "from os import path\n"),
    ("L16", "from pack.file import doubled\n"),
    ("L3", "ROWS = tuple([1])\n"),
    ("L3", "if True:\n    pass\n"),
    ("L3", "A, B = 1, 2\n"),
    ("L15", "ROWS = [[1], 2]\n"),
    ("L15", "ROWS = ({'a': 1},)\n"),
    ("L15", "A = 1\nA = 2\n"),
    ("L15", "from pack.other import TABLE\n\n\ndef change():\n    TABLE['b'] = 2\n"),
    ("L15", "ROWS = [1]\n\n\ndef change():\n    ROWS.append(2)\n"),
    ("L15", "ROWS = [1]\n\n\ndef change():\n    return ROWS\n"),
    ("L15", "from pack.other import doubled\n\n\ndef told():\n    doubled = 1\n    return doubled\n"),
    ("L15", "def hash(n):\n    return n\n"),
    ("L15", "def told(id):\n    return id\n"),
    ("L4", "@staticmethod\ndef told():\n    return 1\n"),
    ("L4", "@property\ndef told():\n    return 1\n"),
    ("L8", "def told():\n    return property\n"),
    ("L4", "def told(rows=[]):\n    return rows\n"),
    ("L5", "class Odd(object):\n    pass\n"),
    ("L5", "class Odd:\n    def __hash__(self):\n        return 1\n"),
    ("L6", "def told():\n    global LEAST\n    return 1\n"),
    ("L7", "def told(n):\n    return n / 2\n"),
    ("L7", "def told():\n    return 1.5\n"),
    ("L7", "def told(rows):\n    made = (row for row in rows)\n    return made\n"),
    ("L7", "from pack.other import doubled\n\n\ndef told(rows):\n    return doubled(*sorted(rows))\n"),
    ("L8", "def told(n):\n    return hash(n)\n"),
    ("L8", "def told():\n    print(1)\n"),
    ("L8", "def told():\n    return missing\n"),
    ("L10", "def told():\n" + "    pass\n" * 40),
    ("L10", "# " + "x" * 120 + "\n"),
    ("L10", "# x\n" * 400),
    ("L12", "def told():\n    __odd = 1\n    return 2\n"),
    ("L12", "def told():\n    for _ in range(3):\n        return _\n"),
    ("L13", "def told(n):\n    return n == {1, 2, 3}\n"),
    ("L14", "# \xe4\n"),
    ("L14", "# \t\n"),
    ("L17", "def told(open):\n    return 1\n"),
    ("L17", "def told():\n    return 'the type of it'\n"),
    ("L17", "def told(dir):\n    return 1\n"),
    ("L18", "def told(box):\n    return box.missing\n"),
    ("L18", "def told(boxes):\n    boxes[0].many = 1\n"),
    ("L18", "class Odd:\n    def many(self):\n        self.many = 1\n"),
    ("L19", "def told():\n    raise ValueError('x')\n"),
    ("L19", "def told(rows):\n    try:\n        return rows[1]\n    except IndexError:\n        return 1\n"),
    ("L19", "def told(rows):\n    try:\n        return rows[1]\n    except Exception:\n        return 1\n"),
    ("L20", "def told(a, b):\n    return a is b\n"),
    ("L21", "def told(a: int):\n    return a\n"),
    ("L22", "from pack.other import doubled\n\n\ndef told():\n    return doubled()\n"),
    ("L22", "from pack.other import doubled\n\n\ndef told():\n    return doubled(1, of=2)\n"),
    ("L22", "def told(rows):\n    return sum(iterable=rows)\n"),
    ("L22", "def told(rows):\n    made = len\n    return made(rows)\n"),
    ("L23", "def told(rows):\n    made = zip(rows, rows)\n    return made\n"),
    ("L23", "def told(rows):\n    out = []\n    out.extend(reversed(rows))\n    return out\n"),
    ("L23", "def told(rows):\n    for row in rows:\n        rows.append(row)\n"),
    ("L23", "def told(rows):\n    for at, row in enumerate(rows):\n        rows[at] = row\n"),
    ("L23", "def told(table):\n    for word, n in table.items():\n        table.pop(word)\n"),
    ("L24", "def told(rows):\n    return set(rows)\n"),
    ("L24", "def told(rows):\n    return [row for row in set(rows)]\n"),
    ("L24", "def told(rows):\n    seen = set(rows)\n    return seen\n"),
    ("L24", "SEEN = {1, 2}\n"),
    ("L25", "def told(text):\n    return text.encode()\n"),
    ("L25", "def told(text):\n    return text.split(sep='a')\n"),
    ("L26", "class Odd:\n    def __init__(self):\n        self.items = 1\n"),
    ("L27", "def told(n):\n    return 2 ** n\n"),
    ("L27", "def told():\n    return 'a\\x41'\n"),
    ("L27", "def told():\n    return 'in %'\n"),
]


class Rules(unittest.TestCase):
    def rules_of(self, text):
        breaches = breaches_of_texts("pack", {"__init__.py": "", "other.py": OTHER, "file.py": text})
        return [rule for name, _, rule, _ in breaches if name == "file.py"]

    def test_what_keeps_the_rules(self):
        self.assertEqual(breaches_of_texts("pack", {"__init__.py": "", "other.py": OTHER, "file.py": KEPT}), [])

    def test_each_breach_is_found(self):
        for rule, text in BREACHES:
            with self.subTest(rule=rule, text=text[:60]):
                self.assertIn(rule, self.rules_of(text))

    def test_circles_of_imports(self):
        texts = {
            "__init__.py": "",
            "a.py": "from pack.b import two\n\n\ndef one():\n    return two()\n",
            "b.py": "from pack.c import three\n\n\ndef two():\n    return three()\n",
            "c.py": "from pack.a import one\n\n\ndef three():\n    return one()\n",
        }
        found = breaches_of_texts("pack", texts)
        wanted = [("a.py", "L16"), ("b.py", "L16"), ("c.py", "L16")]
        self.assertEqual([(name, rule) for name, _, rule, _ in found], wanted)

    def test_names_are_imported_from_the_file_that_defines_them(self):
        texts = {
            "__init__.py": "",
            "a.py": "def one():\n    return 1\n",
            "b.py": "from pack.a import one\n\n\ndef two():\n    return one()\n",
            "c.py": "from pack.b import one\n\n\ndef three():\n    return one()\n",
        }
        self.assertEqual([(name, rule) for name, _, rule, _ in breaches_of_texts("pack", texts)], [("c.py", "L16")])

    def test_the_package_keeps_the_rules(self):
        self.assertEqual(breaches_of_folder(os.path.join(ROOT, "formstead")), [])


if __name__ == "__main__":
    unittest.main()
