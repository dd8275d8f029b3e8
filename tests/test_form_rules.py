"""The form of the package's files: how names are used. Each check finds samples of what it is to find."""

import unittest

from form_rules import drawing_faults, faults_of
from test_form import paths

WRONG = [
    ("L2", "def f():\n    return 1\n\n\nfrom sorthall.errors import Spent\n"),
    ("L2", "def f():\n    from sorthall.errors import Spent\n    return Spent(1)\n"),
    ("L3", "N = len('abc')\n"),
    ("L3", "N = M\n"),
    ("L4", "def f(x=[]):\n    return x\n"),
    ("L4", "def f(x=len('a')):\n    return x\n"),
    ("L6", "def f():\n    a = b = 1\n    return a + b\n"),
    ("L6", "def f(x):\n    a, b = x\n    return a + b\n"),
    ("L7", "def f(x):\n    return f'{x + 1}'\n"),
    ("L7", "def f(x):\n    return f'{x:3}'\n"),
    ("L13", "def f(x):\n    return {1, 2, 3} == x\n"),
    ("L13", "def f(g):\n    return g(lambda x: 1, lambda x: 2)\n"),
    ("L15", "N = 1\nN = 2\n"),
    ("L15", "def f():\n    return 1\n\n\ndef f():\n    return 2\n"),
    ("L15", "N = [[1], [2]]\n"),
    ("L15", "N = [1]\n\n\ndef f():\n    N.append(2)\n"),
    ("L15", "N = [1]\n\n\ndef f():\n    return N\n"),
    ("L15", "N = {1: 2}\n\n\ndef f():\n    N[3] = 4\n"),
    ("L15", "def f(id):\n    return id\n"),
    ("L15", "def f():\n    hash = 1\n    return hash\n"),
    ("L15", "def f(xs):\n    return [next for next in xs]\n"),
    ("L15", "from sorthall.seams import grade\n\n\ndef f(grade):\n    return grade\n"),
    ("L15", "def f():\n    class Some:\n        pass\n    return Some()\n"),
    ("L18", "class Some:\n    pass\n\n\ndef f():\n    return Some\n"),
    ("L18", "class Some:\n    pass\n\n\ndef f():\n    Some.value = 1\n"),
    ("L18", "class Some(StopIteration):\n    pass\n"),
    ("L18", "def f(x):\n    x.y.z = 1\n"),
    ("L19", "def f(x):\n    try:\n        x()\n    except:\n        return 1\n"),
    ("L19", "def f(x):\n    try:\n        x()\n    except Exception:\n        return 1\n"),
    ("L19", "def f(x):\n    try:\n        x()\n    except (KeyError, TypeError):\n        return 1\n"),
    ("L19", "def f(x):\n    try:\n        x()\n    except KeyError as e:\n        raise\n"),
    ("L19", "def f(x):\n    try:\n        x()\n    except KeyError as e:\n        raise e\n"),
    ("L19", "def f(x):\n    raise ValueError() from x\n"),
    ("L21", "def f(x: int):\n    return x\n"),
    ("L21", "def f(x) -> int:\n    return x\n"),
    ("L21", "def f():\n    x: int = 1\n    return x\n"),
    ("L22", "def f(x):\n    return isinstance(x, set)\n"),
    ("L22", "def f():\n    g = len\n    return g\n"),
    ("L22", "def f(x):\n    return int(x, base=2)\n"),
    ("L22", "def f(x, y):\n    return sorted(x, reverse=y)\n"),
    ("L22", "def f(x):\n    return x.split(sep=' ')\n"),
    ("L23", "def f(x):\n    y = range(x)\n    return y\n"),
    ("L23", "def f(x):\n    return reversed(x)\n"),
    ("L23", "def f(x):\n    return x in x.keys()\n"),
    ("L23", "def f(x):\n    return list(zip(x, range(3)))\n"),
    ("L23", "def f(x):\n    for y in x:\n        x.append(y)\n"),
    ("L23", "def f(x):\n    for k, y in enumerate(x):\n        x[k] = y\n"),
    ("L23", "def f(x):\n    for k in x.y.items():\n        x.y.pop(k)\n"),
    ("L23", "def f(x):\n    for k in x:\n        x += [k]\n"),
    ("L24", "def f(x):\n    y = set(x)\n    return y\n"),
    ("L24", "def f(x):\n    for y in set(x):\n        return y\n"),
    ("L24", "def f(x):\n    return sorted(set(x), reverse=True)\n"),
    ("L25", "def f(x):\n    return x.append\n"),
    ("L27", "def f():\n    return '\\x41'\n"),
    ("L28", "class Some:\n    def __init__(self):\n        return None\n"),
    ("L28", "class Some:\n    def __len__(self):\n        return 1\n"),
]
RIGHT = [
    "from sorthall.errors import Spent\n\nN = [1, (2, 3)]\n\n\ndef f(x, y=-1):\n    return N[x] + len(N) + y\n",
    "def f(x):\n    return sorted(set(x) - set([1])) if 1 in {1, 2, 3} else len(set(x))\n",
    "def f(x):\n    try:\n        return x()\n    except KeyError as e:\n        raise ValueError('a') from e\n",
    "def f(x):\n    return isinstance(x, (int, str)) and max([1], key=len, default=0)\n",
    "def f(x):\n    return list(range(x)) + [y for y in reversed(x)] + [min(x.keys())]\n",
    "def f(x, y):\n    for z in x:\n        y.append(z)\n    return f'{x}{y!r}\\n'\n",
    "class Some:\n    def __init__(self):\n        self.x = 1\n\n\ndef f(x):\n    x.y = Some()\n    x[1] = 2\n",
]


class Checks(unittest.TestCase):
    def test_wrong_samples_are_found(self):
        for rule, text in WRONG:
            told = " ".join(faults_of("some.py", '"""Some."""\n' + text)).replace(",", "")
            self.assertIn(rule, told.split(), text)

    def test_right_samples_have_no_fault(self):
        for text in RIGHT:
            self.assertEqual(faults_of("some.py", '"""Some."""\n' + text), [])

    def test_drawing(self):
        one = "from sorthall.two import g\n\n\ndef f():\n    return 1\n"
        two = "from sorthall.three import f\n\n\ndef g():\n    return 1\n"
        three = "from sorthall.one import f\n"
        self.assertEqual(drawing_faults({"one.py": one, "two.py": "def g():\n    return 1\n"}), [])
        told = drawing_faults({"one.py": one, "two.py": two, "three.py": three})
        self.assertEqual(len([words for words in told if "itself" in words]), 3)
        self.assertEqual(len([words for words in told if "defined" in words]), 1)


class Package(unittest.TestCase):
    def setUp(self):
        self.files = {path.name: path.read_text(encoding="utf-8") for path in paths()}

    def test_no_fault(self):
        for name, text in self.files.items():
            self.assertEqual(faults_of(name, text), [])

    def test_drawing(self):
        self.assertEqual(drawing_faults(self.files), [])


if __name__ == "__main__":
    unittest.main()
