import os
import unittest

import chainhouse
import language

FOLDER = os.path.dirname(os.path.abspath(chainhouse.__file__))

# Each is outside the rule that stands beside it; so the look-over itself is seen to find what it should.
OUTSIDE = (
    ("L2", "import os\n"), ("L2", "from os import path\n"), ("L2", "from .errors import Old\n"),
    ("L2", "from chainhouse.errors import *\n"), ("L2", "def f():\n    from chainhouse.errors import Old\n"),
    ("L3", "print\n"), ("L3", "A = len('a')\n"), ("L3", "for a in ():\n    pass\n"),
    ("L4", "def f(*a):\n    pass\n"), ("L4", "def f(**a):\n    pass\n"), ("L4", "def f(*, a):\n    pass\n"),
    ("L4", "def g(a):\n    pass\n\n\n@g\ndef f():\n    pass\n"),
    ("L5", "class A:\n    b = 1\n"), ("L5", "class A(ValueError, KeyError):\n    pass\n"),
    ("L5", "class A:\n    def __add__(self, b):\n        return b\n"),
    ("L6", "def f():\n    assert True\n"), ("L6", "def f(a):\n    with a:\n        pass\n"),
    ("L6", "def f(a):\n    a = b = 1\n"), ("L6", "def f(a):\n    for b in a:\n        pass\n    else:\n        pass\n"),
    ("L6", "def f(a):\n    b, c = a\n"), ("L6", "def f(a):\n    del a\n"), ("L6", "def f(a):\n    'words'\n"),
    ("L7", "def f(a):\n    return a / 2\n"), ("L7", "A = 1.5\n"), ("L7", "A = b'a'\n"),
    ("L7", "def f(a):\n    return (b for b in a)\n"), ("L7", "def f(a):\n    return {b: b for b in a}\n"),
    ("L7", "def f(a):\n    return [b for b in a if b if b]\n"), ("L7", "def f(a):\n    return f(*a)\n"),
    ("L7", "def f(a):\n    return f'{a:3}'\n"), ("L7", "def f(a):\n    return f'{a + 1}'\n"),
    ("L8", "def f(a):\n    return map(f, a)\n"), ("L8", "def f(a):\n    len = a\n"), ("L15", "def f(id):\n    pass\n"),
    ("L10", "A = '" + "a" * 120 + "'\n"), ("L10", "def f():\n" + "    f()\n" * 40), ("L10", "# a\n" * 401),
    ("L12", "def f(a):\n    _b = a\n"), ("L12", "def _f():\n    pass\n"), ("L14", "A = '\u00e9'\n"), ("L14", "#\ta\n"),
    ("L15", "A = 1\nA = 2\n"), ("L15", "def f():\n    class A:\n        pass\n"),
    ("L15", "from chainhouse.errors import Old\n\n\ndef f(Old):\n    pass\n"),
    ("L15", "from chainhouse.rows import is_entry\n\n\ndef f(a):\n    return [is_entry for is_entry in a]\n"),
    ("L15", "class A:\n    pass\n\n\ndef f():\n    A = 1\n"),
    ("L17", "# a type\n"), ("L17", "def f(a):\n    return hasattr(a, 'b')\n"), ("L17", "def f(a):\n    a.mro()\n"),
    ("L18", "class A:\n    def b(self):\n        self.b = 1\n"),
    ("L18", "class A:\n    def b(self):\n        pass\n\n    def b(self):\n        pass\n"),
    ("L19", "def f():\n    try:\n        f()\n    except Exception:\n        pass\n"),
    ("L19", "def f():\n    try:\n        f()\n    except:\n        pass\n"),
    ("L20", "def f(a):\n    return a is f\n"), ("L21", "def f(a: int):\n    pass\n"),
    ("L22", "def f(a):\n    return int(a, base=3)\n"), ("L23", "def f(a):\n    b = range(a)\n"),
    ("L23", "def f(a):\n    return a.items()\n"), ("L24", "def f(a):\n    b = set(a)\n"),
    ("L25", "def f(a):\n    return a.casefold()\n"), ("L25", "def f(a):\n    a.sort()\n"),
    ("L26", "class A:\n    def sort(self):\n        pass\n"), ("L26", "def f(a):\n    a.items = 1\n"),
    ("L27", "def f(a):\n    return 2 ** a\n"), ("L27", "A = '%'\n"),
)


def package_files():
    names = sorted(name for name in os.listdir(FOLDER) if name != "__pycache__")
    return {name: read(name) for name in names if name.endswith(".py")}, names


def read(name):
    with open(os.path.join(FOLDER, name), encoding="utf-8", newline="") as file:
        return file.read()


class Language(unittest.TestCase):
    def test_only_python_files_lie_in_the_package(self):
        files, names = package_files()
        self.assertEqual(sorted(files), names)
        self.assertIn("__init__.py", names)
        for name in names:
            self.assertEqual(language.file_name_faults(name), [])

    def test_each_file_keeps_to_the_rules(self):
        files, names = package_files()
        owned = set().union(*[language.methods_of(language.ast.parse(text)) for text in files.values()])
        for name, text in files.items():
            with self.subTest(name):
                self.assertEqual(language.faults(text, owned), [])

    def test_names_are_drawn_from_the_file_that_defines_them(self):
        files, names = package_files()
        for name, text in files.items():
            for source, drawn in language.drawn_from(text):
                with self.subTest(file=name, drawn=drawn):
                    self.assertIn(drawn, language.defined_in(files[source + ".py"]))

    def test_no_two_files_draw_from_one_another(self):
        files, names = package_files()
        draws = {name[:-3]: {source for source, drawn in language.drawn_from(text)} for name, text in files.items()}
        while draws:
            free = [name for name in draws if not draws[name] & set(draws)]
            self.assertTrue(free, sorted(draws))
            for name in free:
                draws.pop(name)

    def test_what_is_outside_is_found(self):
        for rule, text in OUTSIDE:
            with self.subTest(text):
                self.assertIn(rule, [found[1] for found in language.faults(text)])

    def test_file_names_that_are_none(self):
        for name in ("Rows.py", "a-b.py", "test.py", "test_rows.py", "filter.py", "site.py", "1.py", "a.txt", "enum.py"):
            with self.subTest(name):
                self.assertNotEqual(language.file_name_faults(name), [])
